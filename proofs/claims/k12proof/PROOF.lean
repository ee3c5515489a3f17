import PyProof.Rows.All
import Wide.All
import OpenK.AllK
import Wide.FinOn
import Lean
import PyProof.EqAt
import PyProof.EqKinds
import PyProof.TupleCall
import PySem.Challenge.RW_longways_k12_whole_figures_and_back
set_option Elab.async false
set_option linter.all false
set_option maxRecDepth 100000
section
-- CHANGE: your row's module here, as the last of these rows
namespace L2
open PySem PySem.Spec PyProof.Rows

abbrev Key := Sum Int Str
def keyIs : Key → Value → Bool
  | .inl k, v => Value.isInt k v
  | .inr x, v => Value.isStrOf x v
def keyH (w : World) : Key → Int
  | .inl k => hashInt k
  | .inr x => hashStr w x
theorem keyIs_shape : ∀ {k : Key} {v : Value}, keyIs k v = true → (∃ i t, k = Sum.inl i ∧ v = Value.int i t) ∨ (∃ x t, k = Sum.inr x ∧ v = Value.str x t)
  | .inl i, v, h => by
    obtain ⟨t, e⟩ := Value.isInt_shape (k := i) (v := v) h
    exact .inl ⟨i, t, rfl, e⟩
  | .inr x, v, h => by
    obtain ⟨t, e⟩ := Value.isStrOf_shape (x := x) (v := v) h
    exact .inr ⟨x, t, rfl, e⟩
theorem keyIs_int (i : Int) (t : Tok) : keyIs (.inl i) (.int i t) = true := by simp [keyIs, Value.isInt]
theorem keyIs_str (x : Str) (t : Tok) : keyIs (.inr x) (.str x t) = true := by simp [keyIs, Value.isStrOf]
theorem key_ll (a b : Int) : decide ((Sum.inl a : Key) = Sum.inl b) = (a == b) := by
  by_cases e : a = b
  · subst e; simp
  · have h : ¬ (Sum.inl a : Key) = Sum.inl b := fun q => e (Sum.inl.inj q)
    rw [decide_eq_false h]
    exact (beq_eq_false_iff_ne.mpr e).symm
theorem key_rr (a b : Str) : decide ((Sum.inr a : Key) = Sum.inr b) = decide (a = b) := by
  by_cases e : a = b
  · subst e; simp
  · have h : ¬ (Sum.inr a : Key) = Sum.inr b := fun q => e (Sum.inr.inj q)
    rw [decide_eq_false h, decide_eq_false e]
theorem key_lr (a : Int) (b : Str) : decide ((Sum.inl a : Key) = Sum.inr b) = false := decide_eq_false (fun q => nomatch q)
theorem key_rl (a : Str) (b : Int) : decide ((Sum.inr a : Key) = Sum.inl b) = false := decide_eq_false (fun q => nomatch q)

def mixKind (prog : Program) (w : World) : PySem.KeyKind prog w Key where
  is := keyIs
  hash := keyH w
  inj := fun v a b ha hb => by
    rcases keyIs_shape ha with ⟨i, t, rfl, rfl⟩ | ⟨x, t, rfl, rfl⟩
    · rcases keyIs_shape hb with ⟨j, u, rfl, e⟩ | ⟨y, u, rfl, e⟩
      · injection e with e1 _; rw [e1]
      · exact nomatch e
    · rcases keyIs_shape hb with ⟨j, u, rfl, e⟩ | ⟨y, u, rfl, e⟩
      · exact nomatch e
      · injection e with e1 _; rw [e1]
  byValue := fun k v h => by
    rcases keyIs_shape h with ⟨i, t, rfl, rfl⟩ | ⟨x, t, rfl, rfl⟩ <;> rfl
  pyHash := fun hv h => by
    rcases keyIs_shape hv with ⟨i, t, rfl, rfl⟩ | ⟨x, t, rfl, rfl⟩
    · exact wpAny_pyHash_int h
    · exact wpAny_pyHash_str h
  eqBool := fun hu hv h => by
    rcases keyIs_shape hu with ⟨i, t, rfl, rfl⟩ | ⟨x, t, rfl, rfl⟩
    · rcases keyIs_shape hv with ⟨j, u, rfl, rfl⟩ | ⟨y, u, rfl, rfl⟩
      · rw [key_ll] at h; exact wpAny_eqBool_int h
      · rw [key_lr] at h; exact SeqAt.EqAt.int_str i t y u _ _ _ _ h
    · rcases keyIs_shape hv with ⟨j, u, rfl, rfl⟩ | ⟨y, u, rfl, rfl⟩
      · rw [key_rl] at h; exact SeqAt.EqAt.str_int x t j u _ _ _ _ h
      · rw [key_rr] at h; exact wpAny_eqBool_str h
  «strs» := fun k x t v h => by
    rcases keyIs_shape h with ⟨i, u, rfl, e⟩ | ⟨y, u, rfl, e⟩
    · exact nomatch e
    · injection e with e1 _
      subst e1
      cases v <;> rfl

theorem mixKind_int (prog : Program) (w : World) (i : Int) (t : Tok) : (mixKind prog w).is (.inl i) (.int i t) = true := keyIs_int i t
theorem mixKind_str (prog : Program) (w : World) (x : Str) (t : Tok) : (mixKind prog w).is (.inr x) (.str x t) = true := keyIs_str x t
end L2

namespace L2
open PySem PySem.Spec PyProof.Rows

inductive V where
  | non | bl (b : Bool) | int (i : Int) | str (x : Str) | byt (b : Array UInt8) | flt (b : UInt64) | ref (a : Addr) | ty (n : String)
  deriving DecidableEq

def RelV : V → Value → Prop
  | .non, u => u = Value.none
  | .bl b, u => u = Value.bool b
  | .int i, u => ∃ t, u = Value.int i t
  | .str x, u => ∃ t, u = Value.str x t
  | .byt b, u => ∃ t, u = Value.bytes b t
  | .flt b, u => ∃ t, u = Value.float b t
  | .ref a, u => u = Value.ref a
  | .ty n, u => u = Value.type n

abbrev Vals : List V → List Value → Prop := Paired RelV
theorem Vals.length {xs : List V} {us : List Value} (r : Vals xs us) : xs.length = us.length := Paired.length r
theorem Vals.get : ∀ {xs : List V} {us : List Value} {i : Nat} {x : V}, Vals xs us → xs[i]? = some x → ∃ u, us[i]? = some u ∧ RelV x u
  | _, _, _, _, .nil, e => by simp at e
  | _, _, 0, _, .cons r _, e => by simp at e; subst e; exact ⟨_, rfl, r⟩
  | _, _, i + 1, x, .cons _ t, e => by
    obtain ⟨u, h1, h2⟩ := Vals.get (i := i) (x := x) t (by simpa using e)
    exact ⟨u, by simpa using h1, h2⟩
theorem Vals.set {x : V} {u : Value} (r : RelV x u) : ∀ {xs : List V} {us : List Value} (i : Nat), Vals xs us → Vals (xs.set i x) (us.set i u)
  | _, _, _, .nil => .nil
  | _, _, 0, .cons _ t => .cons r t
  | _, _, i + 1, .cons q t => .cons q (Vals.set r i t)
theorem Vals.append : ∀ {xs ys : List V} {us ws : List Value}, Vals xs us → Vals ys ws → Vals (xs ++ ys) (us ++ ws)
  | _, _, _, _, .nil, s => s
  | _, _, _, _, .cons r t, s => .cons r (Vals.append t s)
theorem Vals.take : ∀ {xs : List V} {us : List Value} (n : Nat), Vals xs us → Vals (xs.take n) (us.take n)
  | _, _, 0, _ => .nil
  | _, _, _ + 1, .nil => .nil
  | _, _, n + 1, .cons r t => .cons r (Vals.take n t)
theorem Vals.drop : ∀ {xs : List V} {us : List Value} (n : Nat), Vals xs us → Vals (xs.drop n) (us.drop n)
  | _, _, 0, r => r
  | _, _, _ + 1, .nil => .nil
  | _, _, n + 1, .cons _ t => Vals.drop n t
def RelO : Option V → Option Value → Prop
  | some v, some u => RelV v u
  | none, none => True
  | _, _ => False
def KV {κ : Type} : List (κ × V) → List (κ × Value) → Prop := Paired fun (p : κ × V) (q : κ × Value) => p.1 = q.1 ∧ RelV p.2 q.2

def kV : Key → V
  | .inl i => .int i
  | .inr x => .str x

inductive HO where
  /-- a list -/
  | lst (xs : List V)
  /-- a tuple (never changes) -/
  | tup (xs : List V)
  /-- a dict whose keys are ints and texts; one whose keys are tuples of ints and texts (the empty one is both) -/
  | dK (kvs : List (Key × V)) | dT (kvs : List (List Key × V))
  /-- a set of ints: its members, its size -/
  | set (S : Int → Bool) (n : Nat)
  /-- an instance of the class at C, its dict at dx, its attributes -/
  | ins (C dx : Addr) (fs : List (Str × V))
  /-- the dict of the instance at x -/
  | own (x : Addr)
  /-- the dict of an exception -/
  | xd (fs : List (Str × V))
  /-- a bound method, f of x -/
  | met (f x : Addr)
  /-- a range object lo, lo + 1, .. below hi -/
  | rng (lo hi : Int)
  /-- a thing that is known to the object (the script; a dict while a loop walks it): read, never written while it is so -/
  | frz (o : Obj) (u : HO)
  /-- a code object's table -/
  | tbl (ps : Array Value)
  /-- any other thing, by what is true of its one object (a def of one's own: SetO a S n := HO.ext fun h => ..) -/
  | ext (φ : Heap → Prop)

abbrev Hp := Addr → Option HO
def upd (H : Hp) (a : Addr) (o : HO) : Hp := fun b => if b = a then some o else H b
theorem upd_same {H : Hp} {a : Addr} {o : HO} : upd H a o a = some o := by unfold upd; rw [if_pos rfl]
theorem upd_ne {H : Hp} {a b : Addr} {o : HO} (h : b ≠ a) : upd H a o b = H b := by unfold upd; rw [if_neg h]
theorem ne_of_none {H : Hp} {a b : Addr} {o : HO} (h : H a = some o) (h' : H b = none) : a ≠ b := by
  intro e; subst e; rw [h] at h'; cases h'

section
variable (P : Program) (w : World)
def ObjOk (H : Hp) (h : Heap) (a : Addr) : HO → Prop
  | .lst xs => xs.length ≤ sizeLine ∧ ∃ (its : List Value) (n : Nat), Vals xs its ∧ h.get? a = some { cls := .type "list", data := .seq its.toArray n }
  | .tup xs => xs.length ≤ sizeLine ∧ ∃ its : List Value, Vals xs its ∧ IsTup h a its.toArray
  | .dK kvs => kvs.length ≤ sizeLine ∧ (a == sysModules) = false ∧ ∃ vs, KV kvs vs ∧ h.DictOf (mixKind P w) a vs
  | .dT kvs => kvs.length ≤ sizeLine ∧ (a == sysModules) = false ∧ ∃ xs : List (List Key × Addr × Value),
      Paired (fun (p : List Key × V) (q : List Key × Addr × Value) => p.1 = q.1 ∧ H q.2.1 = some (.tup (p.1.map kV)) ∧ RelV p.2 q.2.2) kvs xs ∧
      ∃ o es ep, h.get? a = some o ∧ o.ExactDict ∧ o.data = .dict es ep ∧ es.toList = xs.map (entryOfKey (tupleKind (mixKind P w))) ∧ (xs.map (·.1)).Nodup
  | .set S n => h.SetOf (intKind P w) a S n
  | .ins C dx fs => H dx = some (.own a) ∧ fs.length ≤ 1000 ∧ dx ≠ a ∧ h.get? a = some (PySem.W.instObj C dx) ∧
      ∃ mA, h.Ns1 dx mA ∧ (∀ f, RelO (fs.lookup f) (mA f)) ∧ PySem.Within mA (fs.map (·.1))
  | .own _ => ∃ o, h.get? a = some o
  | .xd fs => ∃ mA, h.Ns1 a mA ∧ ∀ f, RelO (fs.lookup f) (mA f)
  | .rng lo hi => ∃ t u v, h.get? a = some { cls := .type "range", data := .fields #[.int lo t, .int hi u, .int 1 v] }
  | .frz o u => h.get? a = some o ∧ ObjOk H h a u
  | .tbl ps => h.get? a = some { cls := .none, data := .fields ps }
  | .met f x => h.get? a = some (PySem.W.methodObj (.ref f) (.ref x))
  | .ext φ => φ h ∧ (∃ o, h.get? a = some o) ∧ ∀ h1 h2 : Heap, φ h1 → (∀ o, h1.get? a = some o → h2.get? a = some o) → φ h2
def HOk (H : Hp) (h : Heap) : Prop := ∀ a o, H a = some o → ObjOk P w H h a o
end

section
variable {P : Program} {w : World} {H H' : Hp} {h h' : Heap} {a : Addr} {o : HO}
theorem ObjOk.lt (x : ObjOk P w H h a o) : a < h.objs.size := by
  cases o with
  | lst xs => obtain ⟨_, _, _, _, e⟩ := x; exact Heap.lt_size e
  | tup xs => obtain ⟨_, _, _, p⟩ := x; exact p.lt
  | dK kvs => obtain ⟨_, _, _, _, o, _, _, e, _⟩ := x; exact Heap.lt_size e
  | dT kvs => obtain ⟨_, _, _, _, o, _, _, e, _⟩ := x; exact Heap.lt_size e
  | set S n => obtain ⟨o, _, _, _, e, _⟩ := x; exact Heap.lt_size e
  | ins C dx fs => obtain ⟨_, _, _, e, _⟩ := x; exact Heap.lt_size e
  | own y => obtain ⟨_, e⟩ := x; exact Heap.lt_size e
  | xd fs => obtain ⟨_, ⟨_, _, _, e, _⟩, _⟩ := x; exact Heap.lt_size e
  | rng lo hi => obtain ⟨_, _, _, e⟩ := x; exact Heap.lt_size e
  | frz ob u => obtain ⟨e, _⟩ := x; exact Heap.lt_size e
  | tbl ps => exact Heap.lt_size (show h.get? a = some _ from x)
  | met f y => exact Heap.lt_size (show h.get? a = some _ from x)
  | ext φ => obtain ⟨_, ⟨_, e⟩, _⟩ := x; exact Heap.lt_size e
theorem Paired.mapP {α β : Type} {F G : α → β → Prop} : ∀ {l₁ : List α} {l₂ : List β}, Paired F l₁ l₂ → (∀ a b, F a b → G a b) → Paired G l₁ l₂
  | _, _, .nil, _ => .nil
  | _, _, .cons r t, f => .cons (f _ _ r) (Paired.mapP t f)
theorem ObjOk.stay (x : ObjOk P w H h a o) (k : ∀ b u, (b = a ∨ H b = some (.own a)) → h.get? b = some u → h'.get? b = some u)
    (ho : ∀ b, H b = some (.own a) → H' b = some (.own a)) (ht : ∀ b xs, H b = some (.tup xs) → H' b = some (.tup xs)) : ObjOk P w H' h' a o := by
  induction o with
  | lst xs => obtain ⟨z, its, n, r, e⟩ := x; exact ⟨z, its, n, r, k _ _ (.inl rfl) e⟩
  | tup xs => obtain ⟨z, its, r, ob, e, c⟩ := x; exact ⟨z, its, r, ob, k _ _ (.inl rfl) e, c⟩
  | dK kvs => obtain ⟨z, y, vs, r, ob, es, ep, e, c⟩ := x; exact ⟨z, y, vs, r, ob, es, ep, k _ _ (.inl rfl) e, c⟩
  | dT kvs =>
    obtain ⟨z, y, xs, r, ob, es, ep, e, c⟩ := x
    exact ⟨z, y, xs, Paired.mapP r fun p q z => ⟨z.1, ht _ _ z.2.1, z.2.2⟩, ob, es, ep, k _ _ (.inl rfl) e, c⟩
  | set S n => obtain ⟨ob, es, ep, t, e, c⟩ := x; exact ⟨ob, es, ep, t, k _ _ (.inl rfl) e, c⟩
  | ins C dx fs =>
    obtain ⟨d, z, ne, e, mA, ⟨od, es, ep, e2, c⟩, r⟩ := x
    exact ⟨ho _ d, z, ne, k _ _ (.inl rfl) e, mA, ⟨od, es, ep, k _ _ (.inr d) e2, c⟩, r⟩
  | own y => obtain ⟨ob, e⟩ := x; exact ⟨ob, k _ _ (.inl rfl) e⟩
  | xd fs => obtain ⟨mA, ⟨od, es, ep, e, c⟩, r⟩ := x; exact ⟨mA, ⟨od, es, ep, k _ _ (.inl rfl) e, c⟩, r⟩
  | rng lo hi => obtain ⟨t, u, v, e⟩ := x; exact ⟨t, u, v, k _ _ (.inl rfl) e⟩
  | frz ob u ih => obtain ⟨e, q⟩ := x; exact ⟨k _ _ (.inl rfl) e, ih q⟩
  | tbl ps =>
    have e : h.get? a = some { cls := .none, data := .fields ps } := x
    show h'.get? a = some { cls := .none, data := .fields ps }
    exact k a _ (.inl rfl) e
  | met f y =>
    have e : h.get? a = some (PySem.W.methodObj (.ref f) (.ref y)) := x
    show h'.get? a = some (PySem.W.methodObj (.ref f) (.ref y))
    exact k a _ (.inl rfl) e
  | ext φ => obtain ⟨p, ⟨o, e⟩, st⟩ := x; exact ⟨st _ _ p fun o q => k _ _ (.inl rfl) q, ⟨o, k _ _ (.inl rfl) e⟩, st⟩
theorem HOk.lt (x : HOk P w H h) (e : H a = some o) : a < h.objs.size := (x a o e).lt
theorem HOk.fresh (x : HOk P w H h) (e : h.objs.size ≤ a) : H a = none := by
  cases q : H a with
  | none => rfl
  | some u => exact absurd (Nat.lt_of_lt_of_le (x.lt q) e) (Nat.lt_irrefl _)
theorem HOk.kept (x : HOk P w H h) (k : ∀ b u, h.get? b = some u → h'.get? b = some u) : HOk P w H h' := fun a o e =>
  (x a o e).stay (fun b u _ q => k b u q) (fun _ q => q) fun _ _ q => q
theorem HOk.laid (x : HOk P w H h) (k : ∀ b u, h.get? b = some u → h'.get? b = some u) (hp : h.objs.size ≤ a) (new : ObjOk P w (upd H a o) h' a o) : HOk P w (upd H a o) h' := fun b u e => by
  have hn := x.fresh hp
  by_cases hb : b = a
  · subst hb; rw [upd_same] at e; cases e; exact new
  · rw [upd_ne hb] at e
    exact (x b u e).stay (fun c v _ q => k c v q) (fun c q => by rw [upd_ne (ne_of_none q hn)]; exact q) fun c xs q => by rw [upd_ne (ne_of_none q hn)]; exact q
end

def Rd (H : Hp) (a : Addr) (u : HO) : Prop := H a = some u ∨ ∃ o, H a = some (.frz o u)
theorem Rd.of {H : Hp} {a : Addr} {u : HO} (h : H a = some u) : Rd H a u := .inl h
theorem Rd.ok {P : Program} {w : World} {H : Hp} {h : Heap} {a : Addr} {u : HO} (r : Rd H a u) (x : HOk P w H h) : ObjOk P w H h a u := by
  rcases r with r | ⟨o, r⟩
  · exact x a u r
  · obtain ⟨_, q⟩ := x a _ r
    exact q
def Mut : Option HO → Prop
  | some (.lst _) => True
  | some (.dK _) => True
  | some (.dT _) => True
  | some (.set _ _) => True
  | some (.ins _ _ _) => True
  | some (.ext _) => True
  | _ => False
section
variable {P : Program} {w : World} {H : Hp} {h h' : Heap} {x e : Addr} {o' : HO}
theorem HOk.write (ok : HOk P w H h) (mu : Mut (H x)) (he : e = x ∨ H e = some (.own x)) (k : ∀ b u, b ≠ e → h.get? b = some u → h'.get? b = some u) (heo : ∃ u, h'.get? e = some u)
    (new : ObjOk P w (upd H x o') h' x o') : HOk P w (upd H x o') h' := fun b u q => by
  have nown : ∀ c y, H c = some (.own y) → c ≠ x := fun c y r z => by subst z; rw [r] at mu; exact mu
  have ntup : ∀ c xs, H c = some (.tup xs) → c ≠ x := fun c xs r z => by subst z; rw [r] at mu; exact mu
  by_cases hb : b = x
  · subst hb; rw [upd_same] at q; cases q; exact new
  · rw [upd_ne hb] at q
    by_cases hbe : b = e
    · have q' : H b = some (.own x) := by
        rcases he with z | z
        · exact absurd (hbe.trans z) hb
        · rw [hbe]; exact z
      rw [q] at q'; cases q'
      obtain ⟨v, hv⟩ := heo
      exact ⟨v, by rw [hbe]; exact hv⟩
    · refine (ok b u q).stay (fun c v hc r => k c v ?_ r) (fun c r => by rw [upd_ne (nown c b r)]; exact r) fun c xs r => by rw [upd_ne (ntup c xs r)]; exact r
      rcases hc with rfl | hc
      · exact hbe
      · rintro rfl
        rcases he with z | z
        · exact nown c b hc z
        · rw [hc] at z; cases z; exact hb rfl
end

structure Un (fs ex : List Addr) (H H' : Hp) (h h' : Heap) : Prop where
  keep : ∀ b o, h.get? b = some o → H b = none → b ∉ fs → b ∉ ex → h'.get? b = some o
  slot : ∀ b o, h.get? b = some o → H b = none → b ∈ fs → b ∉ ex → ∃ sl, h'.get? b = some { o with slots := sl }
  free : ∀ b o, h.get? b = some o → H b = none → b ∉ ex → H' b = none
  there : ∀ b o, h.get? b = some o → b ∉ ex → ∃ o', h'.get? b = some o'
  tups : ∀ b xs, H b = some (.tup xs) → H' b = some (.tup xs)
  frzs : ∀ b o u, H b = some (.frz o u) → H' b = some (.frz o u)
  tbls : ∀ b ps, H b = some (.tbl ps) → ∃ more, H' b = some (.tbl (ps ++ more))
section
variable {fs fs' ex ex' : List Addr} {H H1 H2 : Hp} {h h1 h2 h' : Heap} {a x e : Addr} {o : HO}
theorem Un.any (u : Un fs ex H H1 h h1) {b : Addr} {ob : Obj} (q : h.get? b = some ob) (n : H b = none) (hx : b ∉ ex) : ∃ sl, h1.get? b = some { ob with slots := sl } := by
  by_cases hb : b ∈ fs
  · exact u.slot b ob q n hb hx
  · exact ⟨ob.slots, u.keep b ob q n hb hx⟩
theorem Un.trans (a : Un fs ex H H1 h h1) (b : Un fs ex H1 H2 h1 h2) : Un fs ex H H2 h h2 where
  keep := fun c ob q n hc hx => b.keep c ob (a.keep c ob q n hc hx) (a.free c ob q n hx) hc hx
  slot := fun c ob q n hc hx => by
    obtain ⟨sl, e1⟩ := a.slot c ob q n hc hx
    obtain ⟨sl', e2⟩ := b.slot c _ e1 (a.free c ob q n hx) hc hx
    exact ⟨sl', e2⟩
  free := fun c ob q n hx => by
    obtain ⟨o', e1⟩ := a.there c ob q hx
    exact b.free c o' e1 (a.free c ob q n hx) hx
  there := fun c ob q hx => by
    obtain ⟨o', e1⟩ := a.there c ob q hx
    exact b.there c o' e1 hx
  tups := fun c xs q => b.tups c xs (a.tups c xs q)
  frzs := fun c ob xs q => b.frzs c ob xs (a.frzs c ob xs q)
  tbls := fun c ps q => by
    obtain ⟨m1, e1⟩ := a.tbls c ps q
    obtain ⟨m2, e2⟩ := b.tbls c _ e1
    exact ⟨m1 ++ m2, by rw [e2, Array.append_assoc]⟩
theorem Un.kept (k : ∀ b u, h.get? b = some u → h'.get? b = some u) : Un fs ex H H h h' :=
  ⟨fun b ob q _ _ _ => k b ob q, fun b ob q _ _ _ => ⟨ob.slots, k b ob q⟩, fun _ _ _ n _ => n, fun b ob q _ => ⟨ob, k b ob q⟩, fun _ _ q => q, fun _ _ _ q => q, fun _ ps q => ⟨#[], by rw [q]; simp⟩⟩
theorem Un.refl : Un fs ex H H h h := Un.kept fun _ _ q => q
theorem Un.laid (k : ∀ b u, h.get? b = some u → h'.get? b = some u) (hp : h.objs.size ≤ a) (hn : H a = none) : Un fs ex H (upd H a o) h h' where
  keep := fun b u q _ _ _ => k b u q
  slot := fun b u q _ _ _ => ⟨u.slots, k b u q⟩
  free := fun b u q n _ => by rw [upd_ne (Nat.ne_of_lt (Nat.lt_of_lt_of_le (Heap.lt_size q) hp))]; exact n
  there := fun b u q _ => ⟨u, k b u q⟩
  tups := fun b xs q => by rw [upd_ne (ne_of_none q hn)]; exact q
  frzs := fun b u xs q => by rw [upd_ne (ne_of_none q hn)]; exact q
  tbls := fun b ps q => ⟨#[], by rw [upd_ne (ne_of_none q hn), q]; simp⟩
theorem Un.write (mu : Mut (H x)) (he : e = x ∨ H e = some (.own x)) (k : ∀ b u, b ≠ e → h.get? b = some u → h'.get? b = some u) (heo : ∃ u, h'.get? e = some u) : Un fs ex H (upd H x o) h h' := by
  have hx : ∀ b, H b = none → b ≠ x := fun b n z => by subst z; rw [n] at mu; exact mu
  have hb : ∀ b, H b = none → b ≠ e := fun b n z => by
    subst z
    rcases he with r | r
    · exact hx b n r
    · rw [n] at r; cases r
  have hm : ∀ b u, H b = some u → ¬ Mut (some u) → b ≠ x := fun b u q nm z => by subst z; rw [q] at mu; exact nm mu
  refine ⟨fun b u q n _ _ => k b u (hb b n) q, fun b u q n _ _ => ⟨u.slots, k b u (hb b n) q⟩, fun b u q n _ => by rw [upd_ne (hx b n)]; exact n, fun b u q _ => ?_,
    fun b xs q => by rw [upd_ne (hm b _ q fun z => z)]; exact q, fun b u xs q => by rw [upd_ne (hm b _ q fun z => z)]; exact q, fun b ps q => ⟨#[], by rw [upd_ne (hm b _ q fun z => z), q]; simp⟩⟩
  by_cases hbe : b = e
  · subst hbe; exact heo
  · exact ⟨u, k b u hbe q⟩
theorem Un.mono (u : Un fs ex H H1 h h1) (hs : ∀ b ∈ fs, b ∈ fs') (hx : ∀ b ∈ ex, b ∈ ex') : Un fs' ex' H H1 h h1 :=
  ⟨fun b ob q n hb he => u.keep b ob q n (fun z => hb (hs b z)) fun z => he (hx b z), fun _ _ q n _ he => u.any q n fun z => he (hx _ z), fun b ob q n he => u.free b ob q n fun z => he (hx b z), fun b ob q he => u.there b ob q fun z => he (hx b z), u.tups, u.frzs, u.tbls⟩
end

def trk (h : Heap) (H : Hp) : List Addr := (List.range h.objs.size).filter fun a => (H a).isSome
def hidT (h : Heap) (H : Hp) : Heap := PySem.W.hideAll h (trk h H)
theorem hidT_size (h : Heap) (H : Hp) : (hidT h H).objs.size = h.objs.size := PySem.W.hideAll_size _ _
theorem hidT_get {h : Heap} {H : Hp} {b : Addr} {o : Obj} (e : h.get? b = some o) (n : H b = none) : (hidT h H).get? b = some o :=
  PySem.W.hideAll_get _ e fun hm => by
    have q : (H b).isSome = true := (List.mem_filter.mp hm).2
    rw [n] at q; simp at q
theorem of_hidT {h : Heap} {H : Hp} {b : Addr} {o : Obj} (e : (hidT h H).get? b = some o) : h.get? b = some o ∧ H b = none := by
  have e' : h.get? b = some o := PySem.W.of_hideAll (trk h H) e
  refine ⟨e', ?_⟩
  cases q : H b with
  | none => rfl
  | some x =>
    have hm : b ∈ trk h H := List.mem_filter.mpr ⟨List.mem_range.mpr (Heap.lt_size e'), by simp [q]⟩
    have z : (hidT h H).get? b = none := PySem.W.hideAll_none (trk h H) hm
    rw [z] at e; cases e

def allNews (g h : Heap) (L : Addr) : List (Addr × Obj) := (List.range h.objs.size).filterMap fun a => if a = L ∨ (g.get? a).isSome = true then none else (h.get? a).map fun o => (a, o)
def rest (g h : Heap) (L d : Addr) : List (Addr × Obj) := (allNews g h L).filter fun p => decide (p.1 ≠ d)
end L2

namespace L2
open PySem PySem.Spec PyProof.Rows

structure Mod (K : PySem.W.Frag) (mg : Str → Option Value) (base : Heap) : Prop where
  kin : K.In base
  glob : base.Ns mainGlobals mg
  blt : ∃ mb, base.Ns builtinsNs mb ∧ ∀ x : Str, x ≠ "__name__" → mb x = bootBuiltins x
  nolimit : base.NoLimit

structure Cx where
  prog : Program
  w : World
  K : PySem.W.Frag
  mg : Str → Option Value
  base : Heap
  A : Around
  N : List Str
  s₀ : Shared
  H₀ : Hp
  env : Env
  outer : List Env
  stack : List Env
  ex : List Addr
  fn : Str → Bool
  calm : Bool
  pn : List (Addr × Obj)
  xe : Value → Shared → Prop
def frs (l : List Env) : List Addr := l.filterMap (·.frame)
abbrev Cx.fs (X : Cx) : List Addr := frs X.outer

def Vis (sc : Scope) (x : Str) : Prop := sc.names.lookup x = some .local ∨ sc.names.lookup x = some .cell ∨ sc.names.lookup x = some .free
def Loc (sc : Scope) (x : Str) : Prop := sc.names.lookup x = some .local ∨ sc.names.lookup x = some .cell
def Look (env : Env) (h : Heap) (m : Str → Option Value) (x : Str) (u : Value) : Prop :=
  (env.kindOf x = some .local ∧ m x = some u) ∨ ((env.kindOf x = some .cell ∨ env.kindOf x = some .free) ∧ ∃ c, env.cells.lookup x = some c ∧ h.IsCell c (some u))

structure Cx.Ok (X : Cx) : Prop where
  mod : Mod X.K X.mg X.base
  kind : X.env.scope.kind = .function
  glob : X.env.globals = mainGlobals
  blt : X.env.builtins = builtinsNs
  above : X.s₀.heap.objs.size ≤ X.env.locals
  inj : ∀ x y c, X.env.cells.lookup x = some c → X.env.cells.lookup y = some c → x = y
  has : ∀ x, (X.env.kindOf x = some .cell ∨ X.env.kindOf x = some .free) → ∃ c, X.env.cells.lookup x = some c
  cab : ∀ x c, X.fn x = true → X.env.cells.lookup x = some c → X.s₀.heap.objs.size ≤ c
  hd : X.calm = true → X.A.handled = none
  frames : X.A.frames = some X.stack
  stk : X.stack = X.outer ∨ (X.stack = X.env :: X.outer ∧ X.env.frame = some X.env.locals)
  exf : ∀ b ∈ X.ex, b ≠ X.env.locals ∧ ∀ x c, X.env.cells.lookup x = some c → c ≠ b
  bs : ∀ b o, X.base.get? b = some o → X.s₀.heap.get? b = some o ∧ X.H₀ b = none
  bsz : X.base.objs.size ≤ X.s₀.heap.objs.size
  noex : ∀ b o, X.base.get? b = some o → b ∉ X.ex
  exfs : ∀ b ∈ X.ex, b ∉ X.fs
  funs : X.s₀.heap.FunFrames X.base X.outer
  frf : ∀ b ∈ X.fs, X.H₀ b = none

structure Inv (X : Cx) (pins : List (Addr × Obj)) (σ : List (Option V)) (H : Hp) (s : Shared) : Prop where
  ok : X.Ok
  os : s.os = X.s₀.os
  bare : AllBare s.gens
  base : Un X.fs X.ex X.H₀ H X.s₀.heap s.heap
  loc : ∃ m, s.heap.Ns X.env.locals m ∧ ∀ (i : Nat) (x : Str) (v : V), X.N[i]? = some x → σ[i]? = some (some v) → Vis X.env.scope x → ∃ u, RelV v u ∧ Look X.env s.heap m x u
  cell : ∀ x c, X.env.cells.lookup x = some c → ∃ v, s.heap.IsCell c v
  free : H X.env.locals = none
  freeC : ∀ x c, X.env.cells.lookup x = some c → H c = none
  pin : ∀ p ∈ X.pn ++ pins, s.heap.get? p.1 = some p.2 ∧ H p.1 = none ∧ p.1 ≠ X.env.locals ∧ p.1 ∉ X.fs ∧ ∀ v, p.2.data ≠ .cell v
  hok : HOk X.prog X.w H s.heap
  len : σ.length = X.N.length

section
variable {X : Cx} {pins : List (Addr × Obj)} {σ : List (Option V)} {H H' : Hp} {s : Shared} {h' : Heap}

theorem Cx.Ok.nofr (ok : X.Ok) {b : Addr} {o : Obj} (e : X.base.get? b = some o) : b ∉ X.fs := fun hb => by
  have := (ok.funs.mem hb).1
  rw [e] at this; cases this
theorem Inv.bs (I : Inv X pins σ H s) : ∀ b o, X.base.get? b = some o → s.heap.get? b = some o ∧ H b = none := fun b o e =>
  ⟨I.base.keep b o (I.ok.bs b o e).1 (I.ok.bs b o e).2 (I.ok.nofr e) (I.ok.noex b o e), I.base.free b o (I.ok.bs b o e).1 (I.ok.bs b o e).2 (I.ok.noex b o e)⟩
theorem Inv.bk (I : Inv X pins σ H s) : ∀ b o, X.base.get? b = some o → s.heap.get? b = some o := fun b o e => (I.bs b o e).1
theorem Inv.mod (I : Inv X pins σ H s) : Mod X.K X.mg X.base := I.ok.mod
theorem Inv.kIn (I : Inv X pins σ H s) : X.K.In s.heap := I.ok.mod.kin.keeps I.bk
theorem Inv.nolimit (I : Inv X pins σ H s) : s.heap.NoLimit := I.ok.mod.nolimit.keeps I.bk
theorem Inv.fr (I : Inv X pins σ H s) : ∃ m, Fr X.base X.env.locals s.heap m :=
  let ⟨m, hn, _⟩ := I.loc
  ⟨m, hn, I.bk, Nat.le_trans I.ok.bsz I.ok.above⟩
theorem Inv.lt (I : Inv X pins σ H s) : X.env.locals < s.heap.objs.size := let ⟨_, hn, _⟩ := I.loc; hn.lt
theorem Inv.sz (I : Inv X pins σ H s) : X.s₀.heap.objs.size ≤ s.heap.objs.size := Nat.le_trans I.ok.above (Nat.le_of_lt I.lt)
theorem Inv.nofs (I : Inv X pins σ H s) {a : Addr} (h : s.heap.objs.size ≤ a) : a ∉ X.fs := fun hb => by
  obtain ⟨_, o, ho, _⟩ := I.ok.funs.mem hb
  exact absurd (Nat.lt_of_lt_of_le (Heap.lt_size ho) (Nat.le_trans I.sz h)) (Nat.lt_irrefl _)
theorem Inv.cne (I : Inv X pins σ H s) : ∀ x c, X.env.cells.lookup x = some c → c ≠ X.env.locals := fun x c e z => by
  obtain ⟨v, o, ho, hd⟩ := I.cell x c e
  obtain ⟨m, ⟨o', es, ep, ho', hd', _⟩, _⟩ := I.loc
  rw [z, ho'] at ho; cases ho; rw [hd'] at hd; cases hd
theorem Inv.funs (I : Inv X pins σ H s) : s.heap.FunFrames X.base X.outer := by
  have all : ∀ (l : List Env), (∀ b ∈ frs l, b ∈ X.fs) → X.s₀.heap.FunFrames X.base l → s.heap.FunFrames X.base l := by
    intro l
    induction l with
    | nil => intro _ _; trivial
    | cons env r ih =>
      intro hs hl
      obtain ⟨hk, ⟨L, o, hf, hn, ho, hd⟩, hr⟩ := hl
      have hL : L ∈ X.fs := hs L (by unfold frs; rw [List.filterMap_cons, hf]; exact List.mem_cons_self)
      obtain ⟨sl, e⟩ := I.base.slot L o ho (I.ok.frf L hL) hL fun z => I.ok.exfs L z hL
      exact ⟨hk, ⟨L, _, hf, hn, e, hd⟩, ih (fun b hb => hs b (by unfold frs; rw [List.filterMap_cons, hf]; exact List.mem_cons_of_mem _ hb)) hr⟩
  exact all X.outer (fun _ hb => hb) I.ok.funs

theorem Inv.stack (I : Inv X pins σ H s) : s.heap.FunFrames X.base X.stack := by
  rcases I.ok.stk with e | ⟨e, hf⟩
  · rw [e]; exact I.funs
  · rw [e]
    obtain ⟨m, hn, _⟩ := I.loc
    refine .cons (by rw [I.ok.kind]; decide) hf hn ?_ I.funs
    exact Heap.get?_none_of_le (Nat.le_trans I.ok.bsz I.ok.above)
theorem Inv.stkSub (I : Inv X pins σ H s) : ∀ b ∈ frs X.stack, b ∈ X.env.locals :: X.fs := fun b hb => by
  rcases I.ok.stk with e | ⟨e, hf⟩
  · rw [e] at hb; exact List.mem_cons_of_mem _ hb
  · rw [e] at hb
    unfold frs at hb
    rw [List.filterMap_cons, hf] at hb
    exact hb
theorem Inv.stkFree (I : Inv X pins σ H s) : ∀ b ∈ frs X.stack, H b = none := fun b hb => by
  rcases List.mem_cons.mp (I.stkSub b hb) with e | hb
  · rw [e]; exact I.free
  · obtain ⟨_, o, ho, _⟩ := I.ok.funs.mem hb
    exact I.base.free b o ho (I.ok.frf b hb) fun z => I.ok.exfs b z hb

theorem Inv.step {g' : Array GenState} {t' : Nat} {d' : Drawn} {ch : List Addr} (I : Inv X pins σ H s)
    (hch : ∀ b ∈ ch, (b ∈ X.ex ∨ X.s₀.heap.objs.size ≤ b) ∧ b ≠ X.env.locals ∧ (∀ x c, X.env.cells.lookup x = some c → c ≠ b) ∧ ∀ p ∈ X.pn ++ pins, p.1 ≠ b)
    (keep : ∀ b o, b ≠ X.env.locals → b ∉ X.fs → b ∉ ch → s.heap.get? b = some o → H b = none → h'.get? b = some o)
    (slot : ∀ b o, b ≠ X.env.locals → b ∈ X.fs → b ∉ ch → s.heap.get? b = some o → H b = none → ∃ sl, h'.get? b = some { o with slots := sl }) (free : ∀ b o, b ∉ ch → s.heap.get? b = some o → H b = none → H' b = none)
    (there : ∀ b o, b ∉ ch → s.heap.get? b = some o → ∃ o', h'.get? b = some o')
    (tups : ∀ b xs, H b = some (.tup xs) → H' b = some (.tup xs)) (frzs : ∀ b o u, H b = some (.frz o u) → H' b = some (.frz o u)) (tbls : ∀ b ps, H b = some (.tbl ps) → ∃ more, H' b = some (.tbl (ps ++ more)))
    (ns : ∀ m, s.heap.Ns X.env.locals m → h'.Ns X.env.locals m) (hok : HOk X.prog X.w H' h') (hg : AllBare g') :
    Inv X pins σ H' { s with heap := h', gens := g', drawn := d', toks := t' } := by
  have neL : ∀ b o, X.s₀.heap.get? b = some o → b ≠ X.env.locals := fun b o e => Nat.ne_of_lt (Nat.lt_of_lt_of_le (Heap.lt_size e) I.ok.above)
  have neC : ∀ b o, X.s₀.heap.get? b = some o → b ∉ X.ex → b ∉ ch := fun b o e hx hb => by
    rcases (hch b hb).1 with z | z
    · exact hx z
    · exact absurd (Nat.lt_of_lt_of_le (Heap.lt_size e) z) (Nat.lt_irrefl _)
  have cellK : ∀ x c, X.env.cells.lookup x = some c → ∀ v, s.heap.IsCell c v → h'.IsCell c v := fun x c e v ⟨o, ho, hd⟩ => by
    have nch : c ∉ ch := fun z => (hch c z).2.2.1 x c e rfl
    by_cases hc : c ∈ X.fs
    · obtain ⟨sl, q⟩ := slot c o (I.cne x c e) hc nch ho (I.freeC x c e)
      exact ⟨_, q, hd⟩
    · exact ⟨o, keep c o (I.cne x c e) hc nch ho (I.freeC x c e), hd⟩
  refine ⟨I.ok, I.os, hg, ⟨fun b o e n hb hx => ?_, fun b o e n hb hx => ?_, fun b o e n hx => ?_, fun b o e hx => ?_, fun b xs e => tups b xs (I.base.tups b xs e), fun b o xs e => frzs b o xs (I.base.frzs b o xs e), fun b ps e => ?_⟩, ?_, fun x c e => ?_, ?_, fun x c e => ?_, fun p hp => ?_, hok, I.len⟩
  · exact keep b o (neL b o e) hb (neC b o e hx) (I.base.keep b o e n hb hx) (I.base.free b o e n hx)
  · obtain ⟨sl, e1⟩ := I.base.slot b o e n hb hx
    obtain ⟨sl', e2⟩ := slot b _ (neL b o e) hb (neC b o e hx) e1 (I.base.free b o e n hx)
    exact ⟨sl', e2⟩
  · obtain ⟨o', e1⟩ := I.base.there b o e hx
    exact free b o' (neC b o e hx) e1 (I.base.free b o e n hx)
  · obtain ⟨o', e1⟩ := I.base.there b o e hx
    exact there b o' (neC b o e hx) e1
  · obtain ⟨m1, e1⟩ := I.base.tbls b ps e
    obtain ⟨m2, e2⟩ := tbls b _ e1
    exact ⟨m1 ++ m2, by rw [e2, Array.append_assoc]⟩
  · obtain ⟨m, hn, hl⟩ := I.loc
    refine ⟨m, ns m hn, fun i x v e1 e2 e3 => ?_⟩
    obtain ⟨u, r, l⟩ := hl i x v e1 e2 e3
    refine ⟨u, r, ?_⟩
    rcases l with l | ⟨k, c, e, z⟩
    · exact .inl l
    · exact .inr ⟨k, c, e, cellK x c e _ z⟩
  · obtain ⟨v, z⟩ := I.cell x c e
    exact ⟨v, cellK x c e v z⟩
  · obtain ⟨m, ⟨o, _, _, ho, _⟩, _⟩ := I.loc
    exact free _ o (fun z => (hch _ z).2.1 rfl) ho I.free
  · obtain ⟨v, o, ho, hd⟩ := I.cell x c e
    exact free c o (fun z => (hch c z).2.2.1 x c e rfl) ho (I.freeC x c e)
  · obtain ⟨e, n, ne, nf, d⟩ := I.pin p hp
    have nch : p.1 ∉ ch := fun z => (hch p.1 z).2.2.2 p hp rfl
    exact ⟨keep p.1 p.2 ne nf nch e n, free p.1 p.2 nch e n, ne, nf, d⟩
theorem Inv.un {t' : Nat} (I : Inv X pins σ H s) (u : Un X.fs [] H H' s.heap h') (hok : HOk X.prog X.w H' h') : Inv X pins σ H' { s with heap := h', toks := t' } := by
  obtain ⟨m, ⟨o, es, ep, ho, r⟩, _⟩ := id I.loc
  obtain ⟨sl, hL⟩ := u.any ho I.free (by simp)
  exact I.step (g' := s.gens) (d' := s.drawn) (ch := []) (fun _ z => nomatch z) (fun b o _ hb _ e n => u.keep b o e n hb (by simp)) (fun b o _ hb _ e n => u.slot b o e n hb (by simp)) (fun b o _ e n => u.free b o e n (by simp)) (fun b o _ e => u.there b o e (by simp)) u.tups u.frzs u.tbls (fun m' hm => by
    obtain ⟨o', es', ep', ho', r'⟩ := hm
    rw [ho] at ho'; cases ho'
    exact ⟨_, es', ep', hL, r'⟩) hok I.bare
theorem Inv.call {g' : Array GenState} {t' : Nat} {d' : Drawn} {ch : List Addr} (I : Inv X pins σ H s) (u : Un (frs X.stack) ch H H' s.heap h') (hok : HOk X.prog X.w H' h') (hg : AllBare g')
    (hch : ∀ b ∈ ch, (b ∈ X.ex ∨ X.s₀.heap.objs.size ≤ b) ∧ b ≠ X.env.locals ∧ (∀ x c, X.env.cells.lookup x = some c → c ≠ b) ∧ ∀ p ∈ X.pn ++ pins, p.1 ≠ b) :
    Inv X pins σ H' { s with heap := h', gens := g', drawn := d', toks := t' } := by
  obtain ⟨m, ⟨o, es, ep, ho, r⟩, _⟩ := id I.loc
  obtain ⟨sl, hL⟩ := u.any ho I.free fun z => (hch _ z).2.1 rfl
  exact I.step (ch := ch) hch (fun b o hL hb hc e n => u.keep b o e n (fun z => (List.mem_cons.mp (I.stkSub b z)).elim hL hb) hc) (fun b o _ _ hc e n => u.any e n hc) (fun b o hc e n => u.free b o e n hc) (fun b o hc e => u.there b o e hc) u.tups u.frzs u.tbls (fun m' hm => by
    obtain ⟨o', es', ep', ho', r'⟩ := hm
    rw [ho] at ho'; cases ho'
    exact ⟨_, es', ep', hL, r'⟩) hok hg
theorem Inv.turned {t' : Nat} {it : Addr} (I : Inv X pins σ H s) (k : ∀ b o, b ≠ it → s.heap.get? b = some o → h'.get? b = some o) (hn : H it = none) (hL : it ≠ X.env.locals)
    (h1 : it ∈ X.ex ∨ X.s₀.heap.objs.size ≤ it) (h2 : ∀ x c, X.env.cells.lookup x = some c → c ≠ it) (h3 : ∀ p ∈ X.pn ++ pins, p.1 ≠ it) : Inv X pins σ H { s with heap := h', toks := t' } := by
  have nit : ∀ b u, H b = some u → b ≠ it := fun b u e z => by rw [z, hn] at e; cases e
  refine I.step (g' := s.gens) (d' := s.drawn) (ch := [it]) (fun b hb => ?_) (fun b o _ _ hc e _ => k b o (fun z => hc (by simp [z])) e) (fun b o _ _ hc e _ => ⟨o.slots, k b o (fun z => hc (by simp [z])) e⟩) (fun _ _ _ _ n => n)
    (fun b o hc e => ⟨o, k b o (fun z => hc (by simp [z])) e⟩) (fun _ _ e => e) (fun _ _ _ e => e) (fun b ps e => ⟨#[], by rw [e]; simp⟩) (fun m hm => ?_) (fun b u e => ?_) I.bare
  · have e : b = it := by simpa using hb
    subst e
    exact ⟨h1, hL, h2, h3⟩
  · obtain ⟨o, es, ep, ho, r⟩ := hm
    exact ⟨o, es, ep, k _ o (Ne.symm hL) ho, r⟩
  · refine (I.hok b u e).stay (fun c v hc q => k c v ?_ q) (fun _ q => q) fun _ _ q => q
    rcases hc with z | z
    · rw [z]; exact nit b u e
    · exact nit c _ z
theorem Inv.tok (I : Inv X pins σ H s) (t : Nat) : Inv X pins σ H { s with toks := t } := I.un (h' := s.heap) (t' := t) Un.refl I.hok
theorem Inv.kept {t' : Nat} (I : Inv X pins σ H s) (k : ∀ b u, s.heap.get? b = some u → h'.get? b = some u) : Inv X pins σ H { s with heap := h', toks := t' } := I.un (Un.kept k) (I.hok.kept k)
theorem Inv.laid {a : Addr} {o : HO} {t' : Nat} (I : Inv X pins σ H s) (k : ∀ b u, s.heap.get? b = some u → h'.get? b = some u) (hp : s.heap.objs.size ≤ a) (new : ObjOk X.prog X.w (upd H a o) h' a o) :
    Inv X pins σ (upd H a o) { s with heap := h', toks := t' } := I.un (Un.laid k hp (I.hok.fresh hp)) (I.hok.laid k hp new)
theorem Inv.write {x e : Addr} {o : HO} {t' : Nat} (I : Inv X pins σ H s) (mu : Mut (H x)) (he : e = x ∨ H e = some (.own x)) (k : ∀ b u, b ≠ e → s.heap.get? b = some u → h'.get? b = some u) (heo : ∃ u, h'.get? e = some u)
    (new : ObjOk X.prog X.w (upd H x o) h' x o) : Inv X pins σ (upd H x o) { s with heap := h', toks := t' } := I.un (Un.write mu he k heo) (I.hok.write mu he k heo new)
theorem Inv.pins_of {pins' : List (Addr × Obj)} (I : Inv X pins σ H s) (h : ∀ p ∈ pins', s.heap.get? p.1 = some p.2 ∧ H p.1 = none ∧ p.1 ≠ X.env.locals ∧ p.1 ∉ X.fs ∧ ∀ v, p.2.data ≠ .cell v) : Inv X pins' σ H s :=
  ⟨I.ok, I.os, I.bare, I.base, I.loc, I.cell, I.free, I.freeC, fun p hp => (List.mem_append.mp hp).elim (fun z => I.pin p (List.mem_append_left _ z)) (h p), I.hok, I.len⟩

theorem nodup_ix {N : List Str} (hN : N.Nodup) {i j : Nat} {x : Str} (a : N[i]? = some x) (b : N[j]? = some x) : i = j := by
  obtain ⟨h1, e1⟩ := List.getElem?_eq_some_iff.mp a
  obtain ⟨h2, e2⟩ := List.getElem?_eq_some_iff.mp b
  exact (List.getElem_inj hN).mp (e1.trans e2.symm)

theorem store_ok2 {M : Model} {A : Around} {E : Value → Shared → Prop} {i : Nat} {x : Str} {v : V} {u : Value} {Q : Unit → Shared → Prop} (I : Inv X pins σ H s) (hN : X.N.Nodup) (hi : X.N[i]? = some x) (hx : Loc X.env.scope x) (r : RelV v u)
    (h : ∀ s', Inv X pins (σ.set i (some v)) H s' → (∃ a, Heap.SameBut a s.heap s'.heap ∧ (a = X.env.locals ∨ X.env.cells.lookup x = some a)) → Q () s') (hf : X.fn x = true ∨ X.env.scope.names.lookup x = some .local := by first | exact .inl rfl | exact .inr rfl | assumption) : wpAny M A (storeName X.env x u) Q E s := by
  obtain ⟨m, hn, hl⟩ := id I.loc
  have hcls : (X.env.scope.kind == .class || (X.env.scope.kind == .module && X.env.locals != X.env.globals)) = false := by rw [I.ok.kind]; rfl
  have hiσ : i < σ.length := by rw [I.len]; exact (List.getElem?_eq_some_iff.mp hi).1
  have cne := I.cne
  have tracked : ∀ {a : Addr} {h' : Heap}, (∃ o, s.heap.get? a = some o ∧ H a = none) → Heap.SameBut a s.heap h' → HOk X.prog X.w H h' := fun {a h'} ha hs b ob e => by
    obtain ⟨_, _, hfree⟩ := ha
    refine (I.hok b ob e).stay (fun c w' hc q => (hs.2 c ?_).trans q) (fun _ q => q) fun _ _ q => q
    rintro rfl
    rcases hc with rfl | hc
    · rw [hfree] at e; cases e
    · rw [hfree] at hc; cases hc
  rcases hx with hk | hk
  · refine wpAny_storeName_local hk hn (fun h' hn' hs => ?_) hcls
    obtain ⟨oL, _, _, hoL, _⟩ := id hn
    refine h _ ⟨I.ok, I.os, I.bare, ⟨fun b o e n hb hx => ?_, fun b o e n hb hx => ?_, I.base.free, fun b o e hx => ?_, I.base.tups, I.base.frzs, I.base.tbls⟩, ⟨_, hn', fun j y v' e1 e2 e3 => ?_⟩, fun y c e => ?_, I.free, I.freeC, fun p hp => ?_, tracked ⟨oL, hoL, I.free⟩ hs, by simpa using I.len⟩ ⟨_, hs, .inl rfl⟩
    · exact (hs.2 b (Nat.ne_of_lt (Nat.lt_of_lt_of_le (Heap.lt_size e) I.ok.above))).trans (I.base.keep b o e n hb hx)
    · obtain ⟨sl, e1⟩ := I.base.slot b o e n hb hx
      exact ⟨sl, (hs.2 b (Nat.ne_of_lt (Nat.lt_of_lt_of_le (Heap.lt_size e) I.ok.above))).trans e1⟩
    · obtain ⟨o', e1⟩ := I.base.there b o e hx
      exact ⟨o', (hs.2 b (Nat.ne_of_lt (Nat.lt_of_lt_of_le (Heap.lt_size e) I.ok.above))).trans e1⟩
    · by_cases hj : j = i
      · subst hj
        rw [hi] at e1; cases e1
        rw [List.getElem?_set_self hiσ] at e2
        cases e2
        exact ⟨u, r, .inl ⟨hk, by simp⟩⟩
      · rw [List.getElem?_set_ne (Ne.symm hj)] at e2
        obtain ⟨u', r', q⟩ := hl j y v' e1 e2 e3
        refine ⟨u', r', ?_⟩
        rcases q with ⟨k, e⟩ | ⟨k, c, e, z⟩
        · refine .inl ⟨k, ?_⟩
          have : y ≠ x := fun e => hj (nodup_ix hN e1 (e ▸ hi))
          simp [this, e]
        · exact .inr ⟨k, c, e, z.sameBut hs (cne y c e)⟩
    · obtain ⟨w', z⟩ := I.cell y c e
      exact ⟨w', z.sameBut hs (cne y c e)⟩
    · obtain ⟨e, n, ne, nf, d⟩ := I.pin p hp
      exact ⟨(hs.2 p.1 ne).trans e, n, ne, nf, d⟩
  · have hfn : X.fn x = true := by
      rcases hf with z | z
      · exact z
      · rw [z] at hk; cases hk
    obtain ⟨c, hc⟩ := I.ok.has x (.inl hk)
    obtain ⟨w', z⟩ := I.cell x c hc
    refine wpAny_storeName_cell I.ok.kind hk hc z (fun h' hc' hs => ?_)
    obtain ⟨oc, hoc, hocd⟩ := id z
    refine h { s with heap := h' } ⟨I.ok, I.os, I.bare, ⟨fun b o e n hb hx => ?_, fun b o e n hb hx => ?_, I.base.free, fun b o e hx => ?_, I.base.tups, I.base.frzs, I.base.tbls⟩, ⟨m, hn.sameBut hs (Ne.symm (cne x c hc)), fun j y v' e1 e2 e3 => ?_⟩, fun y c' e => ?_, I.free, I.freeC, fun p hp => ?_, tracked ⟨oc, hoc, I.freeC x c hc⟩ hs, by simpa using I.len⟩ ⟨c, hs, .inr hc⟩
    · exact (hs.2 b (Nat.ne_of_lt (Nat.lt_of_lt_of_le (Heap.lt_size e) (I.ok.cab x c hfn hc)))).trans (I.base.keep b o e n hb hx)
    · obtain ⟨sl, e1⟩ := I.base.slot b o e n hb hx
      exact ⟨sl, (hs.2 b (Nat.ne_of_lt (Nat.lt_of_lt_of_le (Heap.lt_size e) (I.ok.cab x c hfn hc)))).trans e1⟩
    · obtain ⟨o', e1⟩ := I.base.there b o e hx
      exact ⟨o', (hs.2 b (Nat.ne_of_lt (Nat.lt_of_lt_of_le (Heap.lt_size e) (I.ok.cab x c hfn hc)))).trans e1⟩
    · by_cases hj : j = i
      · subst hj
        rw [hi] at e1; cases e1
        rw [List.getElem?_set_self hiσ] at e2
        cases e2
        exact ⟨u, r, .inr ⟨.inl hk, c, hc, hc'⟩⟩
      · rw [List.getElem?_set_ne (Ne.symm hj)] at e2
        obtain ⟨u', r', q⟩ := hl j y v' e1 e2 e3
        refine ⟨u', r', ?_⟩
        rcases q with q | ⟨k, c', e, z'⟩
        · exact .inl q
        · refine .inr ⟨k, c', e, z'.sameBut hs ?_⟩
          rintro rfl
          exact hj (nodup_ix hN e1 (I.ok.inj _ _ _ e hc ▸ hi))
    · by_cases hcc : c' = c
      · subst hcc; exact ⟨_, hc'⟩
      · obtain ⟨w2, z2⟩ := I.cell y c' e
        exact ⟨w2, z2.sameBut hs hcc⟩
    · obtain ⟨e, n, ne, nf, d⟩ := I.pin p hp
      refine ⟨(hs.2 p.1 ?_).trans e, n, ne, nf, d⟩
      intro q
      rw [q, hoc] at e
      have q' : oc = p.2 := Option.some.inj e
      exact d w' (by rw [← q']; exact hocd)
theorem store_ok {M : Model} {A : Around} {E : Value → Shared → Prop} {i : Nat} {x : Str} {v : V} {u : Value} {Q : Unit → Shared → Prop} (I : Inv X pins σ H s) (hN : X.N.Nodup) (hi : X.N[i]? = some x) (hx : Loc X.env.scope x) (r : RelV v u)
    (h : ∀ s', Inv X pins (σ.set i (some v)) H s' → Q () s') (hf : X.fn x = true ∨ X.env.scope.names.lookup x = some .local := by first | exact .inl rfl | exact .inr rfl | assumption) : wpAny M A (storeName X.env x u) Q E s :=
  store_ok2 I hN hi hx r (fun s' I' _ => h s' I') hf
theorem Inv.call' {s' : Shared} {ch : List Addr} (I : Inv X pins σ H s) (ho : s'.os = s.os) (u : Un (frs X.stack) ch H H' s.heap s'.heap) (hok : HOk X.prog X.w H' s'.heap) (hg : AllBare s'.gens)
    (hch : ∀ b ∈ ch, (b ∈ X.ex ∨ X.s₀.heap.objs.size ≤ b) ∧ b ≠ X.env.locals ∧ (∀ x c, X.env.cells.lookup x = some c → c ≠ b) ∧ ∀ p ∈ X.pn ++ pins, p.1 ≠ b) : Inv X pins σ H' s' := by
  obtain ⟨h', g', d', t', o'⟩ := s'
  have e : o' = s.os := ho
  subst e
  exact I.call (g' := g') (t' := t') (d' := d') u hok hg hch
end

abbrev XK := Value → Option Addr → Hp → Prop
abbrev St := List (Option V)
abbrev VK := V → Hp → Prop
abbrev TE := St → Hp → VK → Prop
abbrev TT := St → Hp → (Bool → Hp → Prop) → Prop
abbrev TA := St → Hp → (List V → Hp → Prop) → Prop
structure Ends where
  nx : St → Hp → Prop
  rt : VK
  bk : St → Hp → Prop := fun _ _ => False
  ct : St → Hp → Prop := fun _ _ => False
abbrev TS := Ends → St → Hp → Prop

def EP (X : Cx) (pins : List (Addr × Obj)) (σ : St) (Q : VK) (u : Value) (s' : Shared) : Prop := ∃ v H', Inv X pins σ H' s' ∧ RelV v u ∧ Q v H'
def TP (X : Cx) (pins : List (Addr × Obj)) (σ : St) (Q : Bool → Hp → Prop) (b : Bool) (s' : Shared) : Prop := ∃ H', Inv X pins σ H' s' ∧ Q b H'
def AP (X : Cx) (pins : List (Addr × Obj)) (σ : St) (Q : List V → Hp → Prop) (us : List Value) (s' : Shared) : Prop := ∃ vs H', Inv X pins σ H' s' ∧ Vals vs us ∧ Q vs H'
def SP (X : Cx) (pins : List (Addr × Obj)) (D : Ends) (f : Flow) (s' : Shared) : Prop :=
  match f with
  | .next => ∃ σ' H', Inv X pins σ' H' s' ∧ D.nx σ' H'
  | .brk => ∃ σ' H', Inv X pins σ' H' s' ∧ D.bk σ' H'
  | .cont => ∃ σ' H', Inv X pins σ' H' s' ∧ D.ct σ' H'
  | .ret u => ∃ v σ' H', Inv X pins σ' H' s' ∧ RelV v u ∧ D.rt v H'

def PE (X : Cx) (e : Expr) (t : TE) : Prop :=
  ∀ (pins : List (Addr × Obj)) (s : Shared) (σ : St) (H : Hp) (Q : VK), Inv X pins σ H s → t σ H Q → wpAny (model X.prog X.w) X.A (eval e X.env) (EP X pins σ Q) X.xe s
def PT (X : Cx) (e : Expr) (t : TT) : Prop :=
  ∀ (pins : List (Addr × Obj)) (s : Shared) (σ : St) (H : Hp) (Q : Bool → Hp → Prop), Inv X pins σ H s → t σ H Q → wpAny (model X.prog X.w) X.A (isTrue e X.env (eval e X.env)) (TP X pins σ Q) X.xe s
def PW (X : Cx) (e : Expr) (t : TT) : Prop :=
  ∀ (whole : Sem Value) (pins : List (Addr × Obj)) (s : Shared) (σ : St) (H : Hp) (Q : Bool → Hp → Prop), Inv X pins σ H s → t σ H Q → wpAny (model X.prog X.w) X.A (isTrue e X.env whole) (TP X pins σ Q) X.xe s
theorem PW.pt {X : Cx} {e : Expr} {t : TT} (h : PW X e t) : PT X e t := h _
def PA (X : Cx) (es : List Expr) (t : TA) : Prop :=
  ∀ (pos : Pos) (pins : List (Addr × Obj)) (s : Shared) (σ : St) (H : Hp) (Q : List V → Hp → Prop), Inv X pins σ H s → t σ H Q → wpAny (model X.prog X.w) X.A (spliced (backTo pos (starEach es X.env))) (AP X pins σ Q) X.xe s
def PS (X : Cx) (st : Stmt) (t : TS) : Prop :=
  ∀ (pins : List (Addr × Obj)) (s : Shared) (σ : St) (H : Hp) (D : Ends), Inv X pins σ H s → t D σ H → wpAny (model X.prog X.w) X.A (exec st X.env) (SP X pins D) X.xe s
def PSs (X : Cx) (st : List Stmt) (t : TS) : Prop :=
  ∀ (pins : List (Addr × Obj)) (s : Shared) (σ : St) (H : Hp) (D : Ends), Inv X pins σ H s → t D σ H → wpAny (model X.prog X.w) X.A (execs st X.env) (SP X pins D) X.xe s
theorem thn {α : Type} {t : Sem α} {Q Q' : α → Shared → Prop} {M : Model} {A : Around} {E : Value → Shared → Prop} {s : Shared} (h : wpAny M A t Q E s) (hQ : ∀ a s, Q a s → Q' a s) : wpAny M A t Q' E s := wpAny_mono h hQ fun _ _ x => x
end L2

namespace L2
open PySem PySem.Spec PyProof.Rows
section
variable {X : Cx}

def tVar (i : Nat) : TE := fun σ H Q => ∃ v, σ[i]? = some (some v) ∧ Q v H
def tC (v : V) : TE := fun _ H Q => Q v H
theorem pe_var {i : Nat} {x : Str} {pos : Pos} (hN : X.N[i]? = some x) (hv : Vis X.env.scope x) (hd : (x == ("__debug__" : Str)) = false := by decide) (hcd : (x == ("__classdict__" : Str)) = false := by decide) : PE X (.Name x pos) (tVar i) := by
  intro pins s σ H Q I h
  obtain ⟨v, e, h⟩ := h
  obtain ⟨m, hn, hl⟩ := I.loc
  obtain ⟨u, r, l⟩ := hl i x v hN e hv
  have fin : EP X pins σ Q u s := ⟨v, H, I, r, h⟩
  rcases l with ⟨hk, hm⟩ | ⟨hk, c, hc, hcell⟩
  · exact wpAny_Name (wpAny_loadName_local I.ok.kind hk hn hm fin) hd
  · rcases hk with hk | hk
    · exact wpAny_Name (wpAny_loadName_cell I.ok.kind hk hc hcell fin) hd
    · exact wpAny_Name (wpAny_loadName_free I.ok.kind hk hc hcell fin hcd) hd
theorem pe_int {i j pos} : PE X (.Constant (.int i) j pos) (tC (.int i)) := fun _ _ _ H _ I h => wpAny_Constant_int ⟨.int i, H, I.tok _, ⟨_, rfl⟩, h⟩
theorem pe_bl {b j pos} : PE X (.Constant (.bool b) j pos) (tC (.bl b)) := fun _ _ _ H _ I h => Constant_bool ⟨.bl b, H, I, rfl, h⟩
theorem pe_non {j pos} : PE X (.Constant .none j pos) (tC .non) := fun _ _ _ H _ I h => Constant_none ⟨.non, H, I, rfl, h⟩
theorem pe_str {x j pos} : PE X (.Constant (.str x) j pos) (tC (.str x)) := fun _ _ _ H _ I h => Calls.Constant_str ⟨.str x, H, I.tok _, ⟨_, rfl⟩, h⟩

def Gl (X : Cx) (x : Str) : Prop := X.env.kindOf x = some .globalImplicit
theorem ld_glob {E : Value → Shared → Prop} {pins : List (Addr × Obj)} {s : Shared} {σ : St} {H : Hp} {x : Str} {u : Value} {pos : Pos} {Q : Value → Shared → Prop} (I : Inv X pins σ H s) (hg : Gl X x) (hm : X.mg x = some u) (h : Q u s)
    (hd : (x == ("__debug__" : Str)) = false := by decide) : wpAny (model X.prog X.w) X.A (eval (.Name x pos) X.env) Q E s :=
  Calls.Name_function_global I.ok.kind hg (Calls.loadGlobal_global (by rw [I.ok.glob]; exact I.mod.glob.keeps I.bk) hm h) hd
theorem ld_blt {E : Value → Shared → Prop} {pins : List (Addr × Obj)} {s : Shared} {σ : St} {H : Hp} {x : Str} {u : Value} {pos : Pos} {Q : Value → Shared → Prop} (I : Inv X pins σ H s) (hg : Gl X x) (hm : X.mg x = none) (hv : bootBuiltins x = some u) (h : Q u s)
    (hn : x ≠ "__name__" := by decide) (hd : (x == ("__debug__" : Str)) = false := by decide) : wpAny (model X.prog X.w) X.A (eval (.Name x pos) X.env) Q E s := by
  obtain ⟨mb, h1, h2⟩ := I.mod.blt
  exact Calls.Name_function_global I.ok.kind hg (Calls.loadGlobal_builtin (by rw [I.ok.glob]; exact I.mod.glob.keeps I.bk) hm (by rw [I.ok.blt]; exact h1.keeps I.bk) ((h2 x hn).trans hv) h) hd
theorem pe_glob {x : Str} {v : V} {u : Value} {pos : Pos} (hg : Gl X x) (hm : X.mg x = some u) (r : RelV v u) (hd : (x == ("__debug__" : Str)) = false := by decide) : PE X (.Name x pos) (tC v) :=
  fun _ _ _ H _ I h => ld_glob I hg hm ⟨v, H, I, r, h⟩ hd
theorem pe_bltn {x : Str} {v : V} {u : Value} {pos : Pos} (hg : Gl X x) (hm : X.mg x = none) (hv : bootBuiltins x = some u) (r : RelV v u) (hn : x ≠ "__name__" := by decide) (hd : (x == ("__debug__" : Str)) = false := by decide) : PE X (.Name x pos) (tC v) :=
  fun _ _ _ H _ I h => ld_blt I hg hm hv ⟨v, H, I, r, h⟩ hn hd

variable {a b : Expr} {ta tb : TE} {pos : Pos}
def tB (t : TE) : TT := fun σ H Q => t σ H fun x H1 => ∃ c, x = .bl c ∧ Q c H1
theorem pt_val {e : Expr} {t : TE} (h : PE X e t) (he : ∀ whole, isTrue e X.env whole = (do let v ← whole; standAt e.pos; holding [v] (truthy v)) := by intro _; rfl) : PT X e (tB t) := by
  intro pins s σ H Q I hw
  refine isTrue_plain (thn (h pins s σ H _ I hw) fun v s1 ⟨x, H1, I1, r1, q1⟩ => ?_) (he _)
  obtain ⟨d, rfl, q⟩ := q1
  cases r1
  exact wpAny_truthy_bool ⟨H1, I1, q⟩

variable {tA tB' : TT} {rest : List Expr}
def tAnd (t u : TT) : TT := fun σ H Q => t σ H fun c H1 => if c = true then u σ H1 Q else Q false H1
def tOr (t u : TT) : TT := fun σ H Q => t σ H fun c H1 => if c = true then Q true H1 else u σ H1 Q
def tNot (t : TT) : TT := fun σ H Q => t σ H fun c H1 => Q (!c) H1
theorem pw_and1 (ha : PT X a tA) : PW X (.BoolOp .And [a] pos) tA := by
  intro wh pins s σ H Q I h
  refine isTrue_and (thn (ha pins s σ H Q I h) fun c s1 e => ?_)
  cases c with
  | true => exact isTrue_and_nil e
  | false => exact e
theorem pw_or1 (ha : PT X a tA) : PW X (.BoolOp .Or [a] pos) tA := by
  intro wh pins s σ H Q I h
  refine isTrue_or (thn (ha pins s σ H Q I h) fun c s1 e => ?_)
  cases c with
  | false => exact isTrue_or_nil e
  | true => exact e
theorem pw_and (ha : PT X a tA) (hb : PW X (.BoolOp .And (b :: rest) pos) tB') : PW X (.BoolOp .And (a :: b :: rest) pos) (tAnd tA tB') := by
  intro wh pins s σ H Q I h
  refine isTrue_and (thn (ha pins s σ H _ I h) fun c s1 ⟨H1, I1, q1⟩ => ?_)
  cases c with
  | true => exact hb wh pins s1 σ H1 Q I1 q1
  | false => exact ⟨H1, I1, q1⟩
theorem pw_or (ha : PT X a tA) (hb : PW X (.BoolOp .Or (b :: rest) pos) tB') : PW X (.BoolOp .Or (a :: b :: rest) pos) (tOr tA tB') := by
  intro wh pins s σ H Q I h
  refine isTrue_or (thn (ha pins s σ H _ I h) fun c s1 ⟨H1, I1, q1⟩ => ?_)
  cases c with
  | true => exact ⟨H1, I1, q1⟩
  | false => exact hb wh pins s1 σ H1 Q I1 q1
theorem pt_not (ha : PT X a tA) : PT X (.UnaryOp .Not a pos) (tNot tA) := by
  intro pins s σ H Q I h
  exact isTrue_not (ha pins s σ H (fun c H1 => Q (!c) H1) I h)
def tAndV (ta tb : TE) : TE := fun σ H Q => ta σ H fun x H1 => ∃ c, x = .bl c ∧ if c = true then tb σ H1 Q else Q (.bl false) H1
def tOrV (ta tb : TE) : TE := fun σ H Q => ta σ H fun x H1 => ∃ c, x = .bl c ∧ if c = true then Q (.bl true) H1 else tb σ H1 Q
def tNotV (ta : TE) : TE := fun σ H Q => ta σ H fun x H1 => ∃ c, x = .bl c ∧ Q (.bl (!c)) H1
theorem pe_one {op} {t : TE} (h : PE X a t) : PE X (.BoolOp op [a] pos) t := fun pins s σ H Q I hw => BoolOp_one (h pins s σ H Q I hw)
theorem pe_and (ha : PE X a ta) (hb : PE X (.BoolOp .And (b :: rest) pos) tb) : PE X (.BoolOp .And (a :: b :: rest) pos) (tAndV ta tb) := by
  intro pins s σ H Q I h
  refine BoolOp_and (thn (ha pins s σ H _ I h) fun v s1 ⟨x, H1, I1, r1, q1⟩ => ?_)
  obtain ⟨c, rfl, q1⟩ := q1
  cases r1
  refine wpAny_truthy_bool ?_
  cases c with
  | true => exact hb pins s1 σ H1 Q I1 q1
  | false => exact ⟨.bl false, H1, I1, rfl, q1⟩
def tIf (t : TT) (ta tb : TE) : TE := fun σ H Q => t σ H fun c H1 => if c = true then ta σ H1 Q else tb σ H1 Q
theorem pe_ifExp {c : Expr} (hc : PT X c tA) (ha : PE X a ta) (hb : PE X b tb) : PE X (.IfExp c a b pos) (tIf tA ta tb) := by
  intro pins s σ H Q I h
  refine wpAny_IfExp (thn (hc pins s σ H _ I h) fun d s1 ⟨H1, I1, q1⟩ => ?_)
  cases d with
  | true => exact ha pins s1 σ H1 Q I1 q1
  | false => exact hb pins s1 σ H1 Q I1 q1
end
end L2

namespace L2
open PySem PySem.Spec PyProof.Rows

def SqL (K : PySem.W.Frag) (H : Hp) (a : Addr) (xs : List V) : Prop :=
  Rd H a (.lst xs) ∨
    ∃ (o : Obj) (its : Array Value) (n : Nat), K.lookup a = some o ∧ o.cls = .type "list" ∧ o.dict = none ∧ o.data = .seq its n ∧ its.size ≤ sizeLine ∧ Vals xs its.toList
def SqT (K : PySem.W.Frag) (H : Hp) (a : Addr) (xs : List V) : Prop :=
  Rd H a (.tup xs) ∨
    ∃ (o : Obj) (its : Array Value) (n : Nat), K.lookup a = some o ∧ o.cls = .type "tuple" ∧ o.data = .seq its n ∧ its.size ≤ sizeLine ∧ Vals xs its.toList
def absV : Value → Option V
  | .none => some .non
  | .bool b => some (.bl b)
  | .int i _ => some (.int i)
  | .str x _ => some (.str x)
  | .bytes b _ => some (.byt b)
  | .float b _ => some (.flt b)
  | .ref a => some (.ref a)
  | .type n => some (.ty n)
  | _ => none
theorem RelV.abs {x : V} {u : Value} (r : RelV x u) : absV u = some x := by
  cases x with
  | non => cases r; rfl
  | bl _ => cases r; rfl
  | int _ => obtain ⟨t, rfl⟩ := r; rfl
  | str _ => obtain ⟨t, rfl⟩ := r; rfl
  | byt _ => obtain ⟨t, rfl⟩ := r; rfl
  | flt _ => obtain ⟨t, rfl⟩ := r; rfl
  | ref _ => cases r; rfl
  | ty _ => cases r; rfl
theorem RelV.inj {x y : V} {u : Value} (r : RelV x u) (q : RelV y u) : x = y := Option.some.inj (r.abs.symm.trans q.abs)
theorem Vals.inj : ∀ {xs ys : List V} {us : List Value}, Vals xs us → Vals ys us → xs = ys
  | _, _, _, .nil, .nil => rfl
  | _, _, _, .cons r t, .cons r' t' => by rw [r.inj r', Vals.inj t t']
section
variable {X : Cx} {pins : List (Addr × Obj)} {σ : St} {H : Hp} {s : Shared} {a : Addr} {xs ys : List V}
theorem SqL.of {K : PySem.W.Frag} (h : H a = some (.lst xs)) : SqL K H a xs := .inl (.inl h)
theorem SqT.of {K : PySem.W.Frag} (h : H a = some (.tup xs)) : SqT K H a xs := .inl (.inl h)
theorem Inv.list (I : Inv X pins σ H s) (h : SqL X.K H a xs) : ∃ its : List Value, Vals xs its ∧ PlainL s.heap a its.toArray ∧ xs.length ≤ sizeLine := by
  rcases h with h | ⟨o, its, n, hk, hc, hd, hs, hz, r⟩
  · obtain ⟨z, its, n, r, e⟩ := h.ok I.hok
    exact ⟨its, r, ⟨_, n, e, rfl, rfl, rfl⟩, z⟩
  · refine ⟨its.toList, r, ⟨o, n, I.kIn a o hk, hc, hd, by simpa using hs⟩, ?_⟩
    have e := r.length
    simp only [Array.length_toList] at e
    omega
theorem Inv.tuple (I : Inv X pins σ H s) (h : SqT X.K H a xs) : ∃ its : List Value, Vals xs its ∧ IsTup s.heap a its.toArray ∧ xs.length ≤ sizeLine := by
  rcases h with h | ⟨o, its, n, hk, hc, hs, hz, r⟩
  · obtain ⟨z, its, r, p⟩ := h.ok I.hok
    exact ⟨its, r, p, z⟩
  · refine ⟨its.toList, r, ⟨o, I.kIn a o hk, hc, n, by simpa using hs⟩, ?_⟩
    have e := r.length
    simp only [Array.length_toList] at e
    omega
theorem Inv.list_inj (I : Inv X pins σ H s) (h : SqL X.K H a xs) (h' : SqL X.K H a ys) : xs = ys := by
  obtain ⟨its, r, ⟨o, n, e, _, _, d⟩, _⟩ := I.list h
  obtain ⟨its', r', ⟨o', n', e', _, _, d'⟩, _⟩ := I.list h'
  rw [e] at e'; cases e'
  rw [d] at d'
  injection d' with d1 _
  have : its = its' := by simpa using congrArg Array.toList d1
  subst this
  exact r.inj r'
end

abbrev Cx.wish (X : Cx) (E : Value → Shared → Prop) : Cx := { X with xe := E }
abbrev Cx.nox (X : Cx) : Cx := X.wish fun _ _ => False
theorem Cx.Ok.wish {X : Cx} (ok : X.Ok) (E : Value → Shared → Prop) : (X.wish E).Ok :=
  ⟨ok.mod, ok.kind, ok.glob, ok.blt, ok.above, ok.inj, ok.has, ok.cab, ok.hd, ok.frames, ok.stk, ok.exf, ok.bs, ok.bsz, ok.noex, ok.exfs, ok.funs, ok.frf⟩
theorem Cx.Ok.unwish {X : Cx} {E : Value → Shared → Prop} (ok : (X.wish E).Ok) : X.Ok :=
  ⟨ok.mod, ok.kind, ok.glob, ok.blt, ok.above, ok.inj, ok.has, ok.cab, ok.hd, ok.frames, ok.stk, ok.exf, ok.bs, ok.bsz, ok.noex, ok.exfs, ok.funs, ok.frf⟩
section
variable {X : Cx} {pins : List (Addr × Obj)} {σ : St} {H : Hp} {s : Shared} {E : Value → Shared → Prop}
theorem Inv.wish (I : Inv X pins σ H s) (E : Value → Shared → Prop) : Inv (X.wish E) pins σ H s := ⟨I.ok.wish E, I.os, I.bare, I.base, I.loc, I.cell, I.free, I.freeC, I.pin, I.hok, I.len⟩
theorem Inv.unwish (I : Inv (X.wish E) pins σ H s) : Inv X pins σ H s := ⟨I.ok.unwish, I.os, I.bare, I.base, I.loc, I.cell, I.free, I.freeC, I.pin, I.hok, I.len⟩
theorem SP.unwish {D : Ends} {f : Flow} {s' : Shared} (h : SP (X.wish E) pins D f s') : SP X pins D f s' := by
  cases f with
  | next => obtain ⟨σ', H', I, q⟩ := h; exact ⟨σ', H', I.unwish, q⟩
  | brk => obtain ⟨σ', H', I, q⟩ := h; exact ⟨σ', H', I.unwish, q⟩
  | cont => obtain ⟨σ', H', I, q⟩ := h; exact ⟨σ', H', I.unwish, q⟩
  | ret u => obtain ⟨v, σ', H', I, r, q⟩ := h; exact ⟨v, σ', H', I.unwish, r, q⟩
theorem PE.nox {e : Expr} {t : TE} (h : PE X.nox e t) : PE X e t := fun pins s σ H Q I hw =>
  wpAny_mono (h pins s σ H Q (I.wish _) hw) (fun _ _ ⟨v, H', I', r, q⟩ => ⟨v, H', I'.unwish, r, q⟩) fun _ _ z => False.elim z
theorem PT.nox {e : Expr} {t : TT} (h : PT X.nox e t) : PT X e t := fun pins s σ H Q I hw =>
  wpAny_mono (h pins s σ H Q (I.wish _) hw) (fun _ _ ⟨H', I', q⟩ => ⟨H', I'.unwish, q⟩) fun _ _ z => False.elim z
theorem PSs.nox {st : List Stmt} {t : TS} (h : PSs X.nox st t) : PSs X st t := fun pins s σ H D I hw =>
  wpAny_mono (h pins s σ H D (I.wish _) hw) (fun _ _ q => q.unwish) fun _ _ z => False.elim z
end

section
variable {X : Cx} {st : Stmt} {rest : List Stmt} {t u : TS} {e : Expr} {te : TE} {pos : Pos}
def tNext : TS := fun D σ H => D.nx σ H
def tSeq (t u : TS) : TS := fun D σ H => t { D with nx := u D } σ H
theorem pss_nil : PSs X [] tNext := fun _ _ σ H _ I h => wpAny_execs_nil ⟨σ, H, I, h⟩
theorem pss_cons (h1 : PS X st t) (h2 : PSs X rest u) : PSs X (st :: rest) (tSeq t u) := by
  intro pins s σ H D I h
  refine wpAny_execs_cons (thn (h1 pins s σ H { D with nx := u D } I h) fun f s1 q => ?_)
  cases f with
  | next =>
    obtain ⟨σ', H', I', q⟩ := q
    exact h2 pins s1 σ' H' D I' q
  | ret v => exact q
  | brk => exact q
  | cont => exact q
theorem pss_one (h1 : PS X st t) : PSs X [st] t := by
  intro pins s σ H D I h
  refine wpAny_execs_cons (thn (h1 pins s σ H D I h) fun f s1 q => ?_)
  cases f with
  | next => exact wpAny_execs_nil q
  | ret v => exact q
  | brk => exact q
  | cont => exact q
theorem Inv.quiet {pins : List (Addr × Obj)} {σ : St} {H : Hp} {s : Shared} (I : Inv X pins σ H s) : interactive X.env = false := by simp [interactive, I.ok.kind]
def tDrop (te : TE) : TS := fun D σ H => te σ H fun _ H1 => D.nx σ H1
theorem ps_expr (he : PE X e te) (hs : swapsWith e none pos.line X.env = pure false := by rfl) : PS X (.Expr e pos) (tDrop te) := by
  intro pins s σ H D I h
  exact wpAny_Expr_any (thn (he pins s σ H _ I h) fun v s1 ⟨x, H1, I1, r1, q1⟩ => ⟨σ, H1, I1, q1⟩) I.quiet hs
def tRet (te : TE) : TS := fun D σ H => te σ H D.rt
theorem ps_ret (he : PE X e te) : PS X (.Return (some e) pos) (tRet te) := by
  intro pins s σ H D I h
  exact wpAny_Return_some (thn (he pins s σ H _ I h) fun v s1 ⟨x, H1, I1, r1, q1⟩ => ⟨x, σ, H1, I1, r1, q1⟩)
def tIfS (c : TT) (t u : TS) : TS := fun D σ H => c σ H fun b H1 => if b = true then t D σ H1 else u D σ H1
theorem ps_if {c : Expr} {a b : List Stmt} {tc : TT} (hc : PT X c tc) (ha : PSs X a t) (hb : PSs X b u) : PS X (.If c a b pos) (tIfS tc t u) := by
  intro pins s σ H D I h
  refine wpAny_If (thn (hc pins s σ H _ I h) fun d s1 ⟨H1, I1, q1⟩ => ?_)
  cases d with
  | true => exact ha pins s1 σ H1 D I1 q1
  | false => exact hb pins s1 σ H1 D I1 q1
def tNever : TS := fun _ _ _ => False
theorem ps_never : PS X st tNever := fun _ _ _ _ _ _ h => h.elim
end

abbrev TG := V → St → Hp → (St → Hp → Prop) → Prop
abbrev TGs := List V → St → Hp → (St → Hp → Prop) → Prop
def PG (X : Cx) (target : Expr) (t : TG) : Prop :=
  ∀ (pins : List (Addr × Obj)) (s : Shared) (σ : St) (H : Hp) (v : V) (u : Value) (Q : St → Hp → Prop), Inv X pins σ H s → RelV v u → t v σ H Q →
    wpAny (model X.prog X.w) X.A (assign target X.env u) (fun _ s' => ∃ σ' H', Inv X pins σ' H' s' ∧ Q σ' H') X.xe s
def PGs (X : Cx) (ts : List Expr) (t : TGs) : Prop :=
  ∀ (pins : List (Addr × Obj)) (s : Shared) (σ : St) (H : Hp) (vs : List V) (us : List Value) (Q : St → Hp → Prop), Inv X pins σ H s → Vals vs us → t vs σ H Q →
    wpAny (model X.prog X.w) X.A (assignInOrder ((assignEach ts X.env).map (·.2)) us) (fun _ s' => ∃ σ' H', Inv X pins σ' H' s' ∧ Q σ' H') X.xe s
abbrev TSet := V → V → V → Hp → (Hp → Prop) → Prop
def PSet (X : Cx) (t : TSet) : Prop :=
  ∀ (pins : List (Addr × Obj)) (s : Shared) (σ : St) (H : Hp) (o i v : V) (ov iv u : Value) (Q : Hp → Prop), Inv X pins σ H s → RelV o ov → RelV i iv → RelV v u → t o i v H Q →
    wpAny (model X.prog X.w) X.A (setItem ov iv u) (fun _ s' => ∃ H', Inv X pins σ H' s' ∧ Q H') X.xe s
abbrev TIp := V → V → Hp → VK → Prop
section
variable {X : Cx} {pos : Pos}
def gName (i : Nat) : TG := fun v σ H Q => Q (σ.set i (some v)) H
theorem pg_name {i : Nat} {x : Str} (hN : X.N.Nodup) (hi : X.N[i]? = some x) (hx : Loc X.env.scope x) (hf : X.fn x = true ∨ X.env.scope.names.lookup x = some .local := by first | exact .inl rfl | exact .inr rfl | assumption) : PG X (.Name x pos) (gName i) := by
  intro pins s σ H v u Q I r h
  exact wpAny_assign_Name (store_ok I hN hi hx r (fun s' I' => ⟨_, H, I', h⟩) hf)
def gNil : TGs := fun vs σ H Q => vs = [] ∧ Q σ H
def gCons (t : TG) (u : TGs) : TGs := fun vs σ H Q => ∃ v r, vs = v :: r ∧ t v σ H fun σ' H' => u r σ' H' Q
theorem pgs_nil : PGs X [] gNil := by
  intro pins s σ H vs us Q I r h
  obtain ⟨e, h⟩ := h
  subst e
  cases r
  exact assignInOrder_nil ⟨σ, H, I, h⟩
theorem pgs_cons {e : Expr} {es : List Expr} {t : TG} {u : TGs} (h1 : PG X e t) (h2 : PGs X es u)
    (hs : (assignEach (e :: es) X.env).map (·.2) = assign e X.env :: (assignEach es X.env).map (·.2) := by rfl) : PGs X (e :: es) (gCons t u) := by
  intro pins s σ H vs us Q I r h
  obtain ⟨v, vr, e1, h⟩ := h
  subst e1
  cases r with
  | cons r rr =>
    rw [hs]
    refine assignInOrder_cons (thn (h1 pins s σ H _ _ _ I r h) fun _ s1 ⟨σ1, H1, I1, q1⟩ => ?_)
    exact h2 pins s1 σ1 H1 _ _ Q I1 rr q1
def gTup (K : PySem.W.Frag) (n : Nat) (t : TGs) : TG := fun v σ H Q => ∃ a xs, v = .ref a ∧ SqT K H a xs ∧ xs.length = n ∧ t xs σ H Q
theorem pg_tup {es : List Expr} {k : Nat} {t : TGs} {n : Nat} (hc : X.calm = true) (h : PGs X es t)
    (hn : (assignEach es X.env).length = n := by rfl) (hst : (assignEach es X.env).findIdx? (·.1) = none := by rfl) : PG X (.Tuple es k pos) (gTup X.K n t) := by
  intro pins s σ H v u Q I r hw
  obtain ⟨a, xs, e1, hq, hl, hw⟩ := hw
  subst e1
  cases r
  obtain ⟨its, rv, ht, hz⟩ := I.tuple hq
  refine assign_Tuple_tuple (I.ok.hd hc) ht (by simp [hn, ← hl, rv.length]) hst fun h' hx => ?_
  have I1 : Inv X pins σ H { s with heap := h' } := I.kept (t' := s.toks) fun b o e => hx b o (Nat.ne_of_lt (Heap.lt_size e)) e
  exact h pins _ σ H xs _ Q I1 (by simpa using rv) hw
def gSub (to ti : TE) (t : TSet) : TG := fun v σ H Q => to σ H fun o H1 => ti σ H1 fun i H2 => t o i v H2 fun H3 => Q σ H3
theorem pg_sub {o i : Expr} {to ti : TE} {t : TSet} (ho : PE X o to) (hi : PE X i ti) (hs : PSet X t)
    (ha : ∀ v, assign (.Subscript o i pos) X.env v = (do
      let ov ← holding [v] (eval o X.env)
      let iv ← holding [v, ov] (eval i X.env)
      standAt pos
      holding [v, ov, iv] (setItem ov iv v)
      release [v, ov, iv] []) := by intro _; rfl) : PG X (.Subscript o i pos) (gSub to ti t) := by
  intro pins s σ H v u Q I r h
  rw [ha]
  refine wpAny_bind (wpAny_holding (thn (ho pins s σ H _ I h) fun ov s1 ⟨x, H1, I1, r1, q1⟩ => ?_))
  refine wpAny_bind (wpAny_holding (thn (hi pins s1 σ H1 _ I1 q1) fun iv s2 ⟨y, H2, I2, r2, q2⟩ => ?_))
  refine wpAny_bind (wpAny_standAt (wpAny_bind (wpAny_holding (thn (hs pins s2 σ H2 x y v ov iv u _ I2 r1 r2 r q2) fun _ s3 ⟨H3, I3, q3⟩ => ?_))))
  exact wpAny_release ⟨σ, H3, I3, q3⟩
def tAsg (te : TE) (g : TG) : TS := fun D σ H => te σ H fun x H1 => g x σ H1 D.nx
theorem ps_asg {tg e : Expr} {te : TE} {g : TG} (he : PE X e te) (hg : PG X tg g) (hs : swapsWithSole [tg] e pos.line X.env = pure false := by rfl) (hw : swappedStores [tg] e X.env = pure none := by rfl)
    (h1 : (assignEach [tg] X.env).map (·.2) = [assign tg X.env] := by rfl) : PS X (.Assign [tg] e pos) (tAsg te g) := by
  intro pins s σ H D I h
  refine wpAny_Assign_stores (thn (he pins s σ H _ I h) fun v s1 ⟨x, H1, I1, r1, q1⟩ => ?_) hs hw
  rw [h1]
  exact thn (hg pins s1 σ H1 x v _ I1 r1 q1) fun _ s2 q => q
theorem ps_set {i : Nat} {x : Str} {e : Expr} {te : TE} {pos' : Pos} (hN : X.N.Nodup) (hi : X.N[i]? = some x) (hx : Loc X.env.scope x) (he : PE X e te) (hs : swapsWith e (some (.Name x pos')) pos.line X.env = pure false := by rfl) (hf : X.fn x = true ∨ X.env.scope.names.lookup x = some .local := by first | exact .inl rfl | exact .inr rfl | assumption) :
    PS X (.Assign [.Name x pos'] e pos) (tAsg te (gName i)) := by
  intro pins s σ H D I h
  refine wpAny_Assign_Name (thn (he pins s σ H _ I h) fun v s1 ⟨y, H1, I1, r1, q1⟩ => ?_) hs
  exact store_ok I1 hN hi hx r1 (fun s2 I2 => ⟨_, H1, I2, q1⟩) hf
def tAug (i : Nat) (te : TE) (ti : TIp) : TS := fun D σ H => ∃ x, σ[i]? = some (some x) ∧ te σ H fun y H1 => ti x y H1 fun z H2 => D.nx (σ.set i (some z)) H2
def ipI (f : Int → Int → Int) : TIp := fun x y H Q => ∃ i j, x = .int i ∧ y = .int j ∧ Q (.int (f i j)) H
end

section
variable {X : Cx} {pos : Pos}
def tWhile (c : TT) (tb : TS) : TS := fun D σ H => ∃ W : Nat → St → Hp → Prop, (∃ m, W m σ H) ∧ ∀ m σ H, W m σ H →
  c σ H fun b H1 => if b = true then ∃ N : St → Hp → Prop, (∀ σ' H', N σ' H' → ∃ m', m' < m ∧ W m' σ' H') ∧ tb { D with nx := N, ct := N, bk := D.nx } σ H1 else D.nx σ H1
theorem ps_while {c : Expr} {body : List Stmt} {tc : TT} {tb : TS} (hp : PassesOwn (model X.prog X.w) X.A X.env X.xe) (hc : PT X c tc) (hb : PSs X body tb) : PS X (.While c body [] pos) (tWhile tc tb) := by
  intro pins s σ H D I h
  obtain ⟨W, ⟨m0, w0⟩, turn⟩ := h
  refine wpAny_While (codeAny_whileLoop (fun n s' => ∃ σ' H', Inv X pins σ' H' s' ∧ W n σ' H') ?_ m0 ⟨σ, H, I, w0⟩)
  rintro n s1 ⟨σ1, H1, I1, w1⟩
  refine wpAny_passesOwn hp (thn (hc pins s1 σ1 H1 _ I1 (turn n σ1 H1 w1)) fun b s2 ⟨H2, I2, q2⟩ => ?_)
  cases b with
  | true =>
    obtain ⟨N, hN, q2⟩ := q2
    rw [if_pos rfl]
    refine wpAny_passesOwn hp (thn (hb pins s2 σ1 H2 _ I2 q2) fun f s3 q3 => ?_)
    cases f with
    | next =>
      obtain ⟨σ3, H3, I3, n3⟩ := q3
      obtain ⟨m', hm, w3⟩ := hN σ3 H3 n3
      exact ⟨m', hm, σ3, H3, I3, w3⟩
    | cont =>
      obtain ⟨σ3, H3, I3, n3⟩ := q3
      obtain ⟨m', hm, w3⟩ := hN σ3 H3 n3
      exact ⟨m', hm, σ3, H3, I3, w3⟩
    | brk => exact q3
    | ret v => exact q3
  | false =>
    rw [if_neg Bool.false_ne_true]
    exact wpAny_execs_nil ⟨σ1, H2, I2, q2⟩
end

structure It where
  go : Nat → Hp → Prop
  yld : Nat → Hp → V → Hp → Prop
  stop : Nat → Hp → Prop
def FpOk (X : Cx) (pins : List (Addr × Obj)) (H : Hp) (b : Addr) : Prop :=
  H b = none ∧ b ≠ X.env.locals ∧ b ∉ X.fs ∧ (b ∈ X.ex ∨ X.s₀.heap.objs.size ≤ b) ∧ (∀ x c, X.env.cells.lookup x = some c → c ≠ b) ∧ ∀ p ∈ X.pn ++ pins, p.1 ≠ b
theorem Inv.fpOk {X : Cx} {pins : List (Addr × Obj)} {σ : St} {H H' : Hp} {s : Shared} {b : Addr} (I : Inv X pins σ H s) (hb : s.heap.objs.size ≤ b) (hn : H' b = none) : FpOk X pins H' b := by
  refine ⟨hn, Nat.ne_of_gt (Nat.lt_of_lt_of_le I.lt hb), I.nofs hb, .inr (Nat.le_trans I.sz hb), fun x c e z => ?_, fun p hp z => ?_⟩
  · obtain ⟨v, q⟩ := I.cell x c e
    exact absurd (Nat.lt_of_lt_of_le q.lt (by rw [z]; exact hb)) (Nat.lt_irrefl _)
  · exact absurd (Nat.lt_of_lt_of_le (Heap.lt_size (I.pin p hp).1) (by rw [z]; exact hb)) (Nat.lt_irrefl _)
structure Turn (P : Program) (w : World) (K : PySem.W.Frag) (tg : Expr) (J : It) (fp : List Addr) (it : Addr) (tn : Nat → Heap → Prop) : Prop where
  mem : it ∈ fp
  obj : ∀ i h, tn i h → ∀ b ∈ fp, ∃ o, h.get? b = some o ∧ ∀ v, o.data ≠ .cell v
  keep : ∀ i h h', tn i h → (∀ b ∈ fp, ∀ o, h.get? b = some o → h'.get? b = some o) → tn i h'
  item : ∀ (X : Cx), X.prog = P → X.w = w → X.K = K → X.calm = true → ∀ (i : Nat) (pins : List (Addr × Obj)) (s : Shared) (σ : St) (H : Hp) (E : Value → Shared → Prop), Inv X pins σ H s → (∀ b ∈ fp, FpOk X pins H b) → tn i s.heap → J.go i H →
    wpAny (model P w) X.A (pyNext (.ref it)) (fun r s1 => ∃ u, r = some u ∧
      wpAny (model P w) X.A (letOwnedTupleGo tg (.ref it) u) (fun _ s2 => ∃ x H', Inv X pins σ H' s2 ∧ RelV x u ∧ J.yld i H x H' ∧ tn (i + 1) s2.heap ∧ ∀ b ∈ fp, H' b = none) E s1) E s
  done : ∀ (X : Cx), X.prog = P → X.w = w → X.K = K → X.calm = true → ∀ (i : Nat) (pins : List (Addr × Obj)) (s : Shared) (σ : St) (H : Hp) (E : Value → Shared → Prop), Inv X pins σ H s → (∀ b ∈ fp, FpOk X pins H b) → tn i s.heap → J.stop i H →
    wpAny (model P w) X.A (pyNext (.ref it)) (fun r s1 => r = none ∧ Inv X pins σ H s1) E s
  self : ∀ (A : Around) (i : Nat) (s : Shared) (Q : Value → Shared → Prop) (E : Value → Shared → Prop), tn i s.heap → Q (.ref it) s → wpAny (model P w) A (pyIter (.ref it)) Q E s
abbrev TI := St → Hp → (It → Hp → Prop) → Prop
def PIE (X : Cx) (pins : List (Addr × Obj)) (σ : St) (tg : Expr) (R : It → Hp → Prop) (itv : Value) (s2 : Shared) : Prop :=
  ∃ (it : Addr) (fp : List Addr) (tn : Nat → Heap → Prop) (J : It) (H' : Hp), itv = .ref it ∧ Inv X pins σ H' s2 ∧ Turn X.prog X.w X.K tg J fp it tn ∧ tn 0 s2.heap ∧ (∀ b ∈ fp, FpOk X pins H' b) ∧ R J H'
def PI (X : Cx) (tg iter : Expr) (wi : TI) : Prop :=
  ∀ (pins : List (Addr × Obj)) (s : Shared) (σ : St) (H : Hp) (R : It → Hp → Prop), Inv X pins σ H s → wi σ H R →
    wpAny (model X.prog X.w) X.A (eval iter X.env) (fun v s1 => wpAny (model X.prog X.w) X.A (pyIter v) (PIE X pins σ tg R) X.xe s1) X.xe s

theorem go_of {M : Model} {A : Around} {E : Value → Shared → Prop} {s : Shared} {tg : Expr} {it : Addr} {u : Value} {o : Obj} {n : String} {vs : Array Value} {Q : Unit → Shared → Prop} (ho : s.heap.get? it = some o) (hc : o.cls = .type n) (hd : o.data = .fields vs)
    (hn : ["enumerate", "zip", "dict_itemiterator", "dict_reverseitemiterator", "odict_iterator", "itertools.zip_longest", "itertools.pairwise"].contains n = false) (hQ : Q () s) : wpAny M A (letOwnedTupleGo tg (.ref it) u) Q E s := by
  unfold letOwnedTupleGo
  cases tg <;> first
    | exact wpAny_pure hQ
    | (cases u <;> first
        | exact wpAny_pure hQ
        | (refine wpAny_bind (wpAny_load ho ?_)
           rw [hc, hd]
           show wpAny M A (if (["enumerate", "zip", "dict_itemiterator", "dict_reverseitemiterator", "odict_iterator", "itertools.zip_longest", "itertools.pairwise"].contains n && vs[0]? == some (rawInt _)) = true then _ else _) Q E s
           rw [if_neg (by intro h; rw [hn, Bool.false_and] at h; cases h)]
           exact wpAny_pure hQ))

def Itl (K : PySem.W.Frag) (a : Addr) : It :=
  ⟨fun i H => ∃ xs x, SqL K H a xs ∧ xs[i]? = some x, fun i H x H' => H' = H ∧ ∀ xs, SqL K H a xs → xs[i]? = some x, fun i H => ∃ xs, SqL K H a xs ∧ xs.length ≤ i⟩
def Itt (K : PySem.W.Frag) (a : Addr) : It :=
  ⟨fun i H => ∃ xs x, SqT K H a xs ∧ xs[i]? = some x, fun i H x H' => H' = H ∧ ∀ xs, SqT K H a xs → xs[i]? = some x, fun i H => ∃ xs, SqT K H a xs ∧ xs.length ≤ i⟩
def Itr (lo : Int) (n : Nat) : It := ⟨fun i _ => i < n, fun i H x H' => H' = H ∧ x = .int (lo + i), fun i _ => n ≤ i⟩
theorem turn_list {P : Program} {w : World} {K : PySem.W.Frag} {tg : Expr} (a it : Addr) : Turn P w K tg (Itl K a) [it] it (fun i h => h.IsListIter it a i) where
  mem := by simp
  obj := fun i h st b hb => by
    have e : b = it := by simpa using hb
    subst e
    obtain ⟨o, e, c, d⟩ := st
    exact ⟨o, e, fun v z => by rw [d] at z; cases z⟩
  keep := fun i h h' st k => st.at fun o e => k it (by simp) o e
  item := by
    intro X hP hw hK hc i pins s σ H E I hf st hg
    subst hP hw hK
    obtain ⟨xs, x, hq, hx⟩ := hg
    obtain ⟨its, rv, p, hz⟩ := I.list hq
    obtain ⟨u, hu, ru⟩ := rv.get hx
    obtain ⟨f0, f1, f2, f3, f4, f5⟩ := hf it (by simp)
    refine wpAny_pyNext_list_item st p.isList (x := u) (by simpa using hu) fun h' st' sb => ?_
    have I1 : Inv X pins σ H { s with heap := h' } := I.turned (t' := s.toks) (fun b o hb e => (sb.2 b hb).trans e) f0 f1 f3 f4 f5
    obtain ⟨o, e, c, d⟩ := id st'
    exact ⟨u, rfl, go_of (s := { s with heap := h' }) e c d (by decide) ⟨x, H, I1, ru, ⟨rfl, fun ys hy => by rw [I.list_inj hy hq]; exact hx⟩, st', fun b hb => (hf b hb).1⟩⟩
  done := by
    intro X hP hw hK hc i pins s σ H E I hf st hg
    subst hP hw hK
    obtain ⟨xs, hq, hx⟩ := hg
    obtain ⟨its, rv, p, hz⟩ := I.list hq
    obtain ⟨f0, f1, f2, f3, f4, f5⟩ := hf it (by simp)
    have hl := rv.length
    exact wpAny_pyNext_list_end (I.ok.hd hc) st p.isList (by simp; omega) fun h' eb => ⟨rfl, I.turned (t' := s.toks) (fun b o hb e => eb b o hb e) f0 f1 f3 f4 f5⟩
  self := fun _ _ _ _ _ st h => wpAny_pyIter_listiter st h
theorem turn_range {P : Program} {w : World} {K : PySem.W.Frag} {tg : Expr} (it : Addr) (lo : Int) (n : Nat) : Turn P w K tg (Itr lo n) [it] it (fun i h => IsRangeIter h it (lo + (i : Nat) * 1) ((n : Int) - (i : Nat)) 1) where
  mem := by simp
  obj := fun i h st b hb => by
    have e : b = it := by simpa using hb
    subst e
    exact ⟨_, st, fun v z => by
      have z' : Data.fields _ = Data.cell v := z
      cases z'⟩
  keep := fun i h h' st k => k it (by simp) _ st
  item := by
    intro X hP hw hK hc i pins s σ H E I hf st hg
    subst hP hw hK
    obtain ⟨f0, f1, f2, f3, f4, f5⟩ := hf it (by simp)
    have W := Walks.range (prog := X.prog) (w := X.w) (I.ok.hd hc) it lo 1 n
    refine W.item i s _ _ hg st fun v h' tk hv st' kk => ?_
    obtain ⟨t, rfl⟩ := hv
    have I1 : Inv X pins σ H { s with heap := h', toks := tk } := I.turned (fun b o hb e => kk b o (by simpa using hb) e) f0 f1 f3 f4 f5
    refine ⟨_, rfl, go_of (s := { s with heap := h', toks := tk }) (n := "range_iterator") st' rfl rfl (by decide) ⟨.int (lo + i), H, I1, ⟨t, ?_⟩, ⟨rfl, rfl⟩, st', fun b hb => (hf b hb).1⟩⟩
    rw [Int.mul_one]
  done := by
    intro X hP hw hK hc i pins s σ H E I hf st hg
    subst hP hw hK
    obtain ⟨f0, f1, f2, f3, f4, f5⟩ := hf it (by simp)
    exact wpAny_pyNext_range_end (I.ok.hd hc) st (by have : n ≤ i := hg; omega) fun h' eb => ⟨rfl, I.turned (t' := s.toks) (fun b o hb e => eb b o hb e) f0 f1 f3 f4 f5⟩
  self := fun _ _ _ _ _ st h => wpAny_pyIter_rangeiter st h
end L2

namespace L2
open PySem PySem.Spec PyProof.Rows
section
variable {X : Cx} {tg : Expr}
def iList (K : PySem.W.Frag) (tl : TE) : TI := fun σ H R => tl σ H fun x H1 => ∃ a, x = .ref a ∧ (∃ xs, SqL K H1 a xs) ∧ R (Itl K a) H1
def iTup (K : PySem.W.Frag) (tl : TE) : TI := fun σ H R => tl σ H fun x H1 => ∃ a, x = .ref a ∧ (∃ xs, SqT K H1 a xs) ∧ R (Itt K a) H1
theorem pi_list {l : Expr} {tl : TE} (hl : PE X l tl) : PI X tg l (iList X.K tl) := by
  intro pins s σ H R I h
  refine thn (hl pins s σ H _ I h) fun v s1 ⟨x, H1, I1, r1, q1⟩ => ?_
  obtain ⟨a, e, ⟨xs, hq⟩, q⟩ := q1
  subst e
  cases r1
  obtain ⟨its, rv, p, hz⟩ := I1.list hq
  refine wpAny_pyIter_list p.isList ?_
  refine ⟨s1.heap.objs.size, [s1.heap.objs.size], _, _, H1, rfl, I1.kept (t' := s1.toks) fun b o e => Heap.get?_push_of_some _ e, turn_list a _, ⟨_, Heap.get?_push_size _ rfl, rfl, rfl⟩, fun b hb => ?_, q⟩
  have e : b = s1.heap.objs.size := by simpa using hb
  subst e
  exact I1.fpOk (Nat.le_refl _) (I1.hok.fresh (Nat.le_refl _))
theorem range_it {pins : List (Addr × Obj)} {σ : St} {H : Hp} {s : Shared} {R : It → Hp → Prop} {E : Value → Shared → Prop} {lo hi : Int} {t u v : Tok} {tk : Nat} (I : Inv X pins σ H s) (h1 : -(2 ^ 62) ≤ lo) (h2 : lo < 2 ^ 62) (h3 : -(2 ^ 62) ≤ hi) (h4 : hi < 2 ^ 62)
    (q : R (Itr lo (hi - lo).toNat) H) : wpAny (model X.prog X.w) X.A (pyIter (.ref s.heap.objs.size)) (PIE X pins σ tg R) E { s with heap := s.heap.push { cls := .type "range", data := .fields #[.int lo t, .int hi u, .int 1 v] }, toks := tk } := by
  refine wpAny_pyIter_range (IsRange.new ..) (small_one h1 h2 h3 h4) ?_
  have I1 : Inv X pins σ H { s with heap := s.heap.push { cls := .type "range", data := .fields #[.int lo t, .int hi u, .int 1 v] }, toks := tk } := I.kept fun b o e => Heap.get?_push_of_some _ e
  refine ⟨(s.heap.push { cls := .type "range", data := .fields #[.int lo t, .int hi u, .int 1 v] }).objs.size, [(s.heap.push { cls := .type "range", data := .fields #[.int lo t, .int hi u, .int 1 v] }).objs.size], _, _, H, rfl,
    I1.kept (t' := tk) fun b o e => Heap.get?_push_of_some _ e, turn_range _ lo (hi - lo).toNat, ?_, fun b hb => ?_, q⟩
  · have e1 : lo + ((0 : Nat) : Int) * 1 = lo := by simp
    have e2 : (((hi - lo).toNat : Nat) : Int) - ((0 : Nat) : Int) = Builtin.Range.rangeSize lo hi 1 := by rw [rangeSize_one]; split <;> omega
    show IsRangeIter _ _ (lo + ((0 : Nat) : Int) * 1) ((((hi - lo).toNat : Nat) : Int) - ((0 : Nat) : Int)) 1
    rw [e1, e2]
    exact Heap.get?_push_size _ rfl
  · have e : b = (s.heap.push { cls := .type "range", data := .fields #[.int lo t, .int hi u, .int 1 v] }).objs.size := by simpa using hb
    subst e
    exact I1.fpOk (Nat.le_refl _) (I1.hok.fresh (Nat.le_refl _))
def iRng1 (ta : TA) : TI := fun σ H R => ta σ H fun vs H1 => ∃ j : Int, vs = [.int j] ∧ -(2 ^ 62) ≤ j ∧ j < 2 ^ 62 ∧ R (Itr 0 j.toNat) H1
def iRng2 (ta : TA) : TI := fun σ H R => ta σ H fun vs H1 => ∃ i j : Int, vs = [.int i, .int j] ∧ (-(2 ^ 62) ≤ i ∧ i < 2 ^ 62 ∧ -(2 ^ 62) ≤ j ∧ j < 2 ^ 62) ∧ R (Itr i (j - i).toNat) H1
theorem pi_range1 {a : Expr} {ta : TA} {p pos : Pos} (hg : Gl X "range") (hm : X.mg "range" = none) (ha : PA X [a] ta) (hs : starEach [a] X.env = [(false, eval a X.env)] := by rfl) : PI X tg (.Call (.Name "range" p) [a] [] pos) (iRng1 ta) := by
  intro pins s σ H R I h
  refine Call_ (ld_blt I hg hm boot_range (PyProof.Rows.callWith_type1 (thn (ha pos pins s σ H _ I h) fun us s1 ⟨vs, H1, I1, r1, q1⟩ => ?_) hs rfl))
  obtain ⟨j, e, q1, q2, q⟩ := q1
  subst e
  cases r1 with
  | cons r rr =>
    cases rr
    obtain ⟨t, rfl⟩ := r
    exact call_range_1 (range_it I1 (by omega) (by omega) q1 q2 (by simpa using q))
theorem pi_range2 {a b : Expr} {ta : TA} {p pos : Pos} (hg : Gl X "range") (hm : X.mg "range" = none) (ha : PA X [a, b] ta) (hs : starEach [a, b] X.env = [(false, eval a X.env), (false, eval b X.env)] := by rfl) (hs2 : starEach [b] X.env = [(false, eval b X.env)] := by rfl) :
    PI X tg (.Call (.Name "range" p) [a, b] [] pos) (iRng2 ta) := by
  intro pins s σ H R I h
  refine Call_ (ld_blt I hg hm boot_range (PyProof.Rows.callWith_type1 (thn (ha pos pins s σ H _ I h) fun us s1 ⟨vs, H1, I1, r1, q1⟩ => ?_) (by rw [hs, hs2]) (by rw [hs2]; rfl)))
  obtain ⟨i, j, e, ⟨q1, q2, q3, q4⟩, q⟩ := q1
  subst e
  cases r1 with
  | cons r rr =>
    cases rr with
    | cons r' rr =>
      cases rr
      obtain ⟨t, rfl⟩ := r
      obtain ⟨t', rfl⟩ := r'
      exact call_range_2 (range_it I1 q1 q2 q3 q4 q)

def tFor (wi : TI) (g : TG) (tb : TS) : TS := fun D σ H => wi σ H fun J H1 => ∃ W : Nat → Nat → St → Hp → Prop, (∃ m, W 0 m σ H1) ∧ ∀ i m σ H, W i m σ H →
  (J.stop i H ∧ D.nx σ H) ∨ (J.go i H ∧ ∃ N : St → Hp → Prop, (∀ σ' H', N σ' H' → ∃ m', m' < m ∧ W (i + 1) m' σ' H') ∧ ∀ x H', J.yld i H x H' → g x σ H' fun σ2 H2 => tb { D with nx := N, ct := N, bk := D.nx } σ2 H2)
def pinsAt (fp : List Addr) (h : Heap) : List (Addr × Obj) := fp.filterMap fun b => (h.get? b).map fun o => (b, o)
theorem mem_pinsAt {fp : List Addr} {h : Heap} {b : Addr} {o : Obj} (hb : b ∈ fp) (e : h.get? b = some o) : (b, o) ∈ pinsAt fp h := List.mem_filterMap.mpr ⟨b, hb, by rw [e]; rfl⟩
theorem of_pinsAt {fp : List Addr} {h : Heap} {p : Addr × Obj} (hp : p ∈ pinsAt fp h) : p.1 ∈ fp ∧ h.get? p.1 = some p.2 := by
  obtain ⟨b, hb, e⟩ := List.mem_filterMap.mp hp
  cases q : h.get? b with
  | none => rw [q] at e; cases e
  | some o =>
    rw [q] at e
    have e' : (b, o) = p := Option.some.inj e
    subst e'
    exact ⟨hb, q⟩
theorem Inv.pinned {pins : List (Addr × Obj)} {σ : St} {H : Hp} {s : Shared} {fp : List Addr} (I : Inv X pins σ H s) (hf : ∀ b ∈ fp, FpOk X pins H b) (ho : ∀ b ∈ fp, ∃ o, s.heap.get? b = some o ∧ ∀ v, o.data ≠ .cell v) : Inv X (pins ++ pinsAt fp s.heap) σ H s :=
  I.pins_of fun p hp => (List.mem_append.mp hp).elim (fun z => I.pin p (List.mem_append_right _ z)) fun z => by
    obtain ⟨hb, e⟩ := of_pinsAt z
    obtain ⟨f0, f1, f2, _⟩ := hf p.1 hb
    obtain ⟨o, e', d⟩ := ho p.1 hb
    rw [e] at e'; cases e'
    exact ⟨e, f0, f1, f2, d⟩
theorem Inv.unpinned {pins pl : List (Addr × Obj)} {σ : St} {H : Hp} {s : Shared} (I : Inv X (pins ++ pl) σ H s) : Inv X pins σ H s := I.pins_of fun p hp => I.pin p (List.mem_append_right _ (List.mem_append_left _ hp))
theorem ps_for {iter : Expr} {body : List Stmt} {wi : TI} {g : TG} {tb : TS} {pos : Pos} (hp : PassesOwn (model X.prog X.w) X.A X.env X.xe) (hc : X.calm = true) (hi : PI X tg iter wi) (hg : PG X tg g) (hb : PSs X body tb)
    (hs : ∀ x, foldedSetIterable iter X.env x = pure x := by intro _; rfl) : PS X (.For tg iter body [] pos) (tFor wi g tb) := by
  intro pins s σ H D I h
  refine wpAny_For (thn (hi pins s σ H _ I h) fun v s1 h1 => thn h1 fun itv s2 h2 => ?_) hs
  obtain ⟨it, fp, tn, J, H2, e, I2, T, st2, f2, W, ⟨m0, w0⟩, turn⟩ := h2
  subst e
  -- what stays true of the iterator's objects through the loop
  have stat : ∀ {H' : Hp}, (∀ b ∈ fp, H' b = none) → ∀ b ∈ fp, FpOk X pins H' b := fun hn b hb => ⟨hn b hb, (f2 b hb).2⟩
  refine codeAny_forLoop_any (fun n s' => ∃ i σ' H', Inv X pins σ' H' s' ∧ tn i s'.heap ∧ (∀ b ∈ fp, H' b = none) ∧ W i n σ' H') ?_ m0 ⟨0, σ, H2, I2, st2, fun b hb => (f2 b hb).1, w0⟩
  rintro n s3 ⟨i, σ3, H3, I3, st3, fr3, w3⟩
  rcases turn i n σ3 H3 w3 with ⟨stop, qn⟩ | ⟨go, N, hN, step⟩
  · refine wpAny_passesOwn hp (thn (T.done X rfl rfl rfl hc i pins s3 σ3 H3 X.xe I3 (stat fr3) st3 stop) fun r s4 ⟨hr, I4⟩ => ?_)
    subst hr
    exact wpAny_execs_nil ⟨σ3, H3, I4, qn⟩
  · refine wpAny_passesOwn hp (thn (T.item X rfl rfl rfl hc i pins s3 σ3 H3 X.xe I3 (stat fr3) st3 go) fun r s4 ⟨u, hr, h4⟩ => ?_)
    subst hr
    refine wpAny_passesOwn hp (thn h4 fun _ s5 ⟨x, H5, I5, r5, y5, st5, fr5⟩ => ?_)
    have I5' := I5.pinned (stat fr5) (T.obj _ _ st5)
    refine wpAny_passesOwn hp (thn (hg _ s5 σ3 H5 x u _ I5' r5 (step x H5 y5)) fun _ s6 ⟨σ6, H6, I6, q6⟩ => ?_)
    refine wpAny_passesOwn hp (thn (hb _ s6 σ6 H6 _ I6 q6) fun f s7 q7 => ?_)
    have again : ∀ {σ7 : St} {H7 : Hp}, Inv X (pins ++ pinsAt fp s5.heap) σ7 H7 s7 → N σ7 H7 → ∃ m, m < n ∧ ∃ i σ' H', Inv X pins σ' H' s7 ∧ tn i s7.heap ∧ (∀ b ∈ fp, H' b = none) ∧ W i m σ' H' := fun {σ7 H7} I7 n7 => by
      obtain ⟨m', hm, w7⟩ := hN σ7 H7 n7
      refine ⟨m', hm, i + 1, σ7, H7, I7.unpinned, T.keep _ _ _ st5 fun b hb o e => (I7.pin (b, o) (List.mem_append_right _ (List.mem_append_right _ (mem_pinsAt hb e)))).1, fun b hb => ?_, w7⟩
      obtain ⟨o, e, d⟩ := T.obj _ _ st5 b hb
      exact (I7.pin (b, o) (List.mem_append_right _ (List.mem_append_right _ (mem_pinsAt hb e)))).2.1
    cases f with
    | next => obtain ⟨σ7, H7, I7, n7⟩ := q7; exact again I7 n7
    | cont => obtain ⟨σ7, H7, I7, n7⟩ := q7; exact again I7 n7
    | brk => obtain ⟨σ7, H7, I7, q7⟩ := q7; exact ⟨σ7, H7, I7.unpinned, q7⟩
    | ret v => obtain ⟨x7, σ7, H7, I7, r7, q7⟩ := q7; exact ⟨x7, σ7, H7, I7.unpinned, r7, q7⟩
end

theorem for_list {K : PySem.W.Frag} {a : Addr} {xs : List V} {g : TG} {tb : TS} {D : Ends} {σ : St} {H : Hp} (Pv : Nat → St → Hp → Prop) (h0 : Pv 0 σ H) (hl : ∀ i σ H, i ≤ xs.length → Pv i σ H → SqL K H a xs)
    (hs : ∀ i x σ H, xs[i]? = some x → Pv i σ H → g x σ H fun σ2 H2 => tb { D with nx := Pv (i + 1), ct := Pv (i + 1), bk := D.nx } σ2 H2) (hd : ∀ σ H, Pv xs.length σ H → D.nx σ H) :
    ∃ W : Nat → Nat → St → Hp → Prop, (∃ m, W 0 m σ H) ∧ ∀ i m σ H, W i m σ H →
      ((Itl K a).stop i H ∧ D.nx σ H) ∨ ((Itl K a).go i H ∧ ∃ N : St → Hp → Prop, (∀ σ' H', N σ' H' → ∃ m', m' < m ∧ W (i + 1) m' σ' H') ∧ ∀ x H', (Itl K a).yld i H x H' → g x σ H' fun σ2 H2 => tb { D with nx := N, ct := N, bk := D.nx } σ2 H2) := by
  refine ⟨fun i m σ H => m = xs.length - i ∧ i ≤ xs.length ∧ Pv i σ H, ⟨xs.length, by simp, Nat.zero_le _, h0⟩, ?_⟩
  rintro i m σ H ⟨rfl, hi, p⟩
  have q := hl i σ H hi p
  by_cases hlt : i < xs.length
  · refine .inr ⟨⟨xs, xs[i], q, by simp [hlt]⟩, Pv (i + 1), fun σ' H' p' => ⟨xs.length - (i + 1), by omega, rfl, hlt, p'⟩, fun x H' y => ?_⟩
    obtain ⟨e, y⟩ := y
    subst e
    exact hs i x σ _ (y xs q) p
  · have e : i = xs.length := by omega
    subst e
    exact .inl ⟨⟨xs, q, Nat.le_refl _⟩, hd σ H p⟩
theorem for_range {lo : Int} {n : Nat} {g : TG} {tb : TS} {D : Ends} {σ : St} {H : Hp} (Pv : Nat → St → Hp → Prop) (h0 : Pv 0 σ H)
    (hs : ∀ i σ H, i < n → Pv i σ H → g (.int (lo + i)) σ H fun σ2 H2 => tb { D with nx := Pv (i + 1), ct := Pv (i + 1), bk := D.nx } σ2 H2) (hd : ∀ σ H, Pv n σ H → D.nx σ H) :
    ∃ W : Nat → Nat → St → Hp → Prop, (∃ m, W 0 m σ H) ∧ ∀ i m σ H, W i m σ H →
      ((Itr lo n).stop i H ∧ D.nx σ H) ∨ ((Itr lo n).go i H ∧ ∃ N : St → Hp → Prop, (∀ σ' H', N σ' H' → ∃ m', m' < m ∧ W (i + 1) m' σ' H') ∧ ∀ x H', (Itr lo n).yld i H x H' → g x σ H' fun σ2 H2 => tb { D with nx := N, ct := N, bk := D.nx } σ2 H2) := by
  refine ⟨fun i m σ H => m = n - i ∧ i ≤ n ∧ Pv i σ H, ⟨n, by simp, Nat.zero_le _, h0⟩, ?_⟩
  rintro i m σ H ⟨rfl, hi, p⟩
  by_cases hlt : i < n
  · refine .inr ⟨hlt, Pv (i + 1), fun σ' H' p' => ⟨n - (i + 1), by omega, rfl, hlt, p'⟩, fun x H' y => ?_⟩
    obtain ⟨e, y⟩ := y
    subst e y
    exact hs i σ _ hlt p
  · have e : i = n := by omega
    subst e
    exact .inl ⟨Nat.le_refl _, hd σ H p⟩
theorem while_by {c : TT} {tb : TS} {D : Ends} {σ : St} {H : Hp} (Pv : St → Hp → Prop) (μ : St → Hp → Nat) (h0 : Pv σ H)
    (hs : ∀ σ H, Pv σ H → c σ H fun b H1 => if b = true then tb { D with nx := fun σ' H' => Pv σ' H' ∧ μ σ' H' < μ σ H, ct := fun σ' H' => Pv σ' H' ∧ μ σ' H' < μ σ H, bk := D.nx } σ H1 else D.nx σ H1)
    (mono : ∀ σ H Q Q', (∀ b H1, Q b H1 → Q' b H1) → c σ H Q → c σ H Q') : tWhile c tb D σ H := by
  refine ⟨fun m σ H => m = μ σ H ∧ Pv σ H, ⟨_, rfl, h0⟩, ?_⟩
  rintro m σ H ⟨rfl, p⟩
  refine mono σ H _ _ (fun b H1 q => ?_) (hs σ H p)
  cases b with
  | true => exact ⟨_, fun σ' H' ⟨p', l⟩ => ⟨_, l, rfl, p'⟩, q⟩
  | false => exact q
end L2

namespace L2
open PySem PySem.Spec PyProof.Rows

abbrev R2 := V → V → Hp → VK → Prop
def OpR (X : Cx) (f : Value → Value → Sem Value) (r : R2) : Prop :=
  ∀ (pins : List (Addr × Obj)) (s : Shared) (σ : St) (H : Hp) (x y : V) (v u : Value) (Q : VK), Inv X pins σ H s → RelV x v → RelV y u → r x y H Q →
    wpAny (model X.prog X.w) X.A (f v u) (EP X pins σ Q) X.xe s
def UnR (X : Cx) (f : Value → Sem Value) (r : V → Hp → VK → Prop) : Prop :=
  ∀ (pins : List (Addr × Obj)) (s : Shared) (σ : St) (H : Hp) (x : V) (v : Value) (Q : VK), Inv X pins σ H s → RelV x v → r x H Q →
    wpAny (model X.prog X.w) X.A (f v) (EP X pins σ Q) X.xe s
def CallR (X : Cx) (f : Value) (r : List V → Hp → VK → Prop) : Prop :=
  ∀ (pins : List (Addr × Obj)) (s : Shared) (σ : St) (H : Hp) (xs : List V) (us : List Value) (Q : VK), Inv X pins σ H s → Vals xs us → r xs H Q →
    wpAny (model X.prog X.w) X.A (call f us) (EP X pins σ Q) X.xe s
def TruR (X : Cx) (r : V → Hp → (Bool → Hp → Prop) → Prop) : Prop :=
  ∀ (pins : List (Addr × Obj)) (s : Shared) (σ : St) (H : Hp) (x : V) (v : Value) (Q : Bool → Hp → Prop), Inv X pins σ H s → RelV x v → r x H Q →
    wpAny (model X.prog X.w) X.A (truthy v) (TP X pins σ Q) X.xe s

def tOp (r : R2) (ta tb : TE) : TE := fun σ H Q => ta σ H fun x H1 => tb σ H1 fun y H2 => r x y H2 Q
def tUn (r : V → Hp → VK → Prop) (ta : TE) : TE := fun σ H Q => ta σ H fun x H1 => r x H1 Q
def rI (C : Int → Int → Prop) (g : Int → Int → V) : R2 := fun x y H Q => ∃ i j, x = .int i ∧ y = .int j ∧ C i j ∧ Q (g i j) H
def rI0 (g : Int → Int → V) : R2 := fun x y H Q => ∃ i j, x = .int i ∧ y = .int j ∧ Q (g i j) H
def rU (g : Int → V) : V → Hp → VK → Prop := fun x H Q => ∃ i, x = .int i ∧ Q (g i) H

section
variable {X : Cx} {a b c : Expr} {ta tb tc : TE} {pos : Pos}

theorem binT (ha : PE X a ta) (hb : PE X b tb) {pins : List (Addr × Obj)} {s : Shared} {σ : St} {H : Hp} {R : V → V → Hp → Prop} (I : Inv X pins σ H s)
    (h : ta σ H fun x H1 => tb σ H1 fun y H2 => R x y H2) {Q : Value → Shared → Prop} {f : Value → Value → Sem Value}
    (hf : ∀ v u s2 x y H2, Inv X pins σ H2 s2 → RelV x v → RelV y u → R x y H2 → wpAny (model X.prog X.w) X.A (f v u) Q X.xe s2) :
    wpAny (model X.prog X.w) X.A (eval a X.env) (fun v s₁ => wpAny (model X.prog X.w) X.A (eval b X.env) (fun u s₂ => wpAny (model X.prog X.w) X.A (f v u) Q X.xe s₂) X.xe s₁) X.xe s := by
  refine thn (ha pins s σ H _ I h) fun v s1 ⟨x, H1, I1, r1, q1⟩ => ?_
  refine thn (hb pins s1 σ H1 _ I1 q1) fun u s2 ⟨y, H2, I2, r2, q2⟩ => ?_
  exact hf v u s2 x y H2 I2 r1 r2 q2

theorem pe_op {op : Operator} {r : R2} (ho : OpR X (binaryOp op) r) (ha : PE X a ta) (hb : PE X b tb) : PE X (.BinOp a op b pos) (tOp r ta tb) := by
  intro pins s σ H Q I h
  exact wpAny_BinOp (binT ha hb I h fun v u s2 x y H2 I2 rx ry q => ho pins s2 σ H2 x y v u Q I2 rx ry q)
theorem pe_un {op : UnaryOp} {r : V → Hp → VK → Prop} (ho : UnR X (unaryOp op) r) (ha : PE X a ta) : PE X (.UnaryOp op a pos) (tUn r ta) := by
  intro pins s σ H Q I h
  exact UnaryOp_ (thn (ha pins s σ H _ I h) fun v s1 ⟨x, H1, I1, r1, q1⟩ => ho pins s1 σ H1 x v Q I1 r1 q1)
theorem opI {f : Value → Value → Sem Value} {C : Int → Int → Prop} {g : Int → Int → Int}
    (rule : ∀ (i j : Int) (t u : Tok) (s : Shared) (Q : Value → Shared → Prop) (E : Value → Shared → Prop), C i j → Q (.int (g i j) s.toks) { s with toks := s.toks + 1 } → wpAny (model X.prog X.w) X.A (f (.int i t) (.int j u)) Q E s) :
    OpR X f (rI C fun i j => .int (g i j)) := by
  intro pins s σ H x y v u Q I rx ry h
  obtain ⟨i, j, rfl, rfl, hc, q⟩ := h
  obtain ⟨t, rfl⟩ := rx
  obtain ⟨t', rfl⟩ := ry
  exact rule i j t t' s _ _ hc ⟨.int (g i j), H, I.tok _, ⟨_, rfl⟩, q⟩
theorem opI0 {f : Value → Value → Sem Value} {g : Int → Int → Int}
    (rule : ∀ (i j : Int) (t u : Tok) (s : Shared) (Q : Value → Shared → Prop) (E : Value → Shared → Prop), Q (.int (g i j) s.toks) { s with toks := s.toks + 1 } → wpAny (model X.prog X.w) X.A (f (.int i t) (.int j u)) Q E s) :
    OpR X f (rI0 fun i j => .int (g i j)) := by
  intro pins s σ H x y v u Q I rx ry h
  obtain ⟨i, j, rfl, rfl, q⟩ := h
  obtain ⟨t, rfl⟩ := rx
  obtain ⟨t', rfl⟩ := ry
  exact rule i j t t' s _ _ ⟨.int (g i j), H, I.tok _, ⟨_, rfl⟩, q⟩
theorem opB0 {f : Value → Value → Sem Value} {g : Int → Int → Bool}
    (rule : ∀ (i j : Int) (t u : Tok) (s : Shared) (Q : Value → Shared → Prop) (E : Value → Shared → Prop), Q (.bool (g i j)) s → wpAny (model X.prog X.w) X.A (f (.int i t) (.int j u)) Q E s) :
    OpR X f (rI0 fun i j => .bl (g i j)) := by
  intro pins s σ H x y v u Q I rx ry h
  obtain ⟨i, j, rfl, rfl, q⟩ := h
  obtain ⟨t, rfl⟩ := rx
  obtain ⟨t', rfl⟩ := ry
  exact rule i j t t' s _ _ ⟨.bl (g i j), H, I, rfl, q⟩

def CDiv (i j : Int) : Prop := 0 < j ∧ j < 1073741824
def CPow (i j : Int) : Prop := 0 ≤ j ∧ j ≤ 1000000 ∧ i.natAbs < 2 ^ 64
def CMul (i j : Int) : Prop := (-(2 ^ 64) < i ∧ i < 2 ^ 64) ∨ (-(2 ^ 64) < j ∧ j < 2 ^ 64)
theorem CMul.ok {i j : Int} (h : CMul i j) : IntMulOk i j := by
  rcases h with ⟨h1, h2⟩ | ⟨h1, h2⟩
  · exact .of_left (intBits_le_64 h1 h2)
  · exact .of_right (intBits_le_64 h1 h2)
theorem op_add : OpR X (binaryOp .Add) (rI0 fun i j => .int (i + j)) := opI0 fun _ _ _ _ _ _ _ q => add_int q
theorem op_sub : OpR X (binaryOp .Sub) (rI0 fun i j => .int (i - j)) := opI0 fun _ _ _ _ _ _ _ q => sub_int q
theorem op_mul : OpR X (binaryOp .Mult) (rI CMul fun i j => .int (i * j)) := opI fun _ _ _ _ _ _ _ hc q => mul_int q hc.ok
theorem op_fdiv : OpR X (binaryOp .FloorDiv) (rI CDiv fun i j => .int (i / j)) := opI fun i j _ _ _ _ _ hc q => by
  have h1 : (0 : Int) < j := hc.1
  have h2 : j < 1073741824 := hc.2
  exact floordiv_int (by omega) (by rw [Int.fdiv_eq_ediv_of_nonneg i (by omega)]; exact q) (.inl (PyProof.noPylong_small (by omega)))
theorem op_mod : OpR X (binaryOp .Mod) (rI (fun _ j => 0 < j) fun i j => .int (i % j)) := opI fun i j _ _ _ _ _ hc q => by
  have h1 : (0 : Int) < j := hc
  exact mod_int' (by omega) (by rw [Int.fmod_eq_emod_of_nonneg i (by omega)]; exact q)
theorem op_pow : OpR X (binaryOp .Pow) (rI CPow fun i j => .int (i ^ j.toNat)) := opI fun _ _ _ _ _ _ _ hc q => pow_int_small hc.1 hc.2.1 hc.2.2 q
theorem unI {f : Value → Sem Value} {g : Int → Int}
    (rule : ∀ (i : Int) (t : Tok) (s : Shared) (Q : Value → Shared → Prop) (E : Value → Shared → Prop), Q (.int (g i) s.toks) { s with toks := s.toks + 1 } → wpAny (model X.prog X.w) X.A (f (.int i t)) Q E s) :
    UnR X f (rU fun i => .int (g i)) := by
  intro pins s σ H x v Q I rx h
  obtain ⟨i, rfl, q⟩ := h
  obtain ⟨t, rfl⟩ := rx
  exact rule i t s _ _ ⟨.int (g i), H, I.tok _, ⟨_, rfl⟩, q⟩
theorem un_neg : UnR X (unaryOp .USub) (rU fun i => .int (-i)) := unI fun _ _ _ _ _ q => neg_int q
end

def scal : V → V → Bool
  | .non, .non => true | .non, .int _ => true | .int _, .non => true | .non, .bl _ => true | .bl _, .non => true | .non, .str _ => true | .str _, .non => true
  | .int _, .int _ => true | .bl _, .bl _ => true | .str _, .str _ => true | .byt _, .byt _ => true
  | .int _, .str _ => true | .str _, .int _ => true | .bl _, .str _ => true | .str _, .bl _ => true
  | _, _ => false
def rEq : R2 := fun x y H Q => scal x y = true ∧ Q (.bl (decide (x = y))) H
def rNe : R2 := fun x y H Q => scal x y = true ∧ Q (.bl (!decide (x = y))) H

theorem dec_int {i j : Int} : decide (V.int i = V.int j) = (i == j) := by
  rw [Bool.eq_iff_iff]
  simp
theorem dec_bl {i j : Bool} : decide (V.bl i = V.bl j) = (i == j) := by
  rw [Bool.eq_iff_iff]
  simp
theorem dec_str {i j : Str} : decide (V.str i = V.str j) = (i == j) := by
  rw [Bool.eq_iff_iff]
  simp
theorem dec_byt {i j : Array UInt8} : decide (V.byt i = V.byt j) = (i.toList == j.toList) := by
  rw [Bool.eq_iff_iff]
  cases i
  cases j
  simp

section
variable {X : Cx} {a b c : Expr} {ta tb tc : TE} {pos : Pos}
theorem fin_bl {pins : List (Addr × Obj)} {σ : St} {H : Hp} {s : Shared} {Q : VK} {k k' : Bool} (I : Inv X pins σ H s) (q : Q (.bl k) H) (e : k = k') : EP X pins σ Q (.bool k') s := by
  subst e
  exact ⟨.bl k, H, I, rfl, q⟩
theorem op_eq : OpR X (compareOp .Eq) rEq := by
  intro pins s σ H x y v u Q I rx ry h
  obtain ⟨hs, q⟩ := h
  cases x with
  | non =>
    cases rx
    cases y with
    | non => cases ry; exact PySem.EqNone.eq_none_none (fin_bl I q (by simp))
    | bl j => cases ry; exact PySem.EqNone.eq_none_bool (fin_bl I q (by simp))
    | int j => obtain ⟨t', rfl⟩ := ry; exact PySem.EqNone.eq_none_int (fin_bl I q (by simp))
    | str j => obtain ⟨t', rfl⟩ := ry; exact PySem.EqNone.eq_none_str (fin_bl I q (by simp))
    | _ => exact absurd (show false = true from hs) Bool.false_ne_true
  | bl i =>
    cases rx
    cases y with
    | non => cases ry; exact PySem.EqNone.eq_bool_none (fin_bl I q (by simp))
    | bl j => cases ry; exact eq_bool (fin_bl I q dec_bl)
    | str j => obtain ⟨t', rfl⟩ := ry; exact PySem.EqMixed.eq_bool_str (fin_bl I q (by simp))
    | _ => exact absurd (show false = true from hs) Bool.false_ne_true
  | int i =>
    obtain ⟨t, rfl⟩ := rx
    cases y with
    | non => cases ry; exact PySem.EqNone.eq_int_none (fin_bl I q (by simp))
    | int j => obtain ⟨t', rfl⟩ := ry; exact eq_int (fin_bl I q dec_int)
    | str j => obtain ⟨t', rfl⟩ := ry; exact PySem.EqMixed.eq_int_str (fin_bl I q (by simp))
    | _ => exact absurd (show false = true from hs) Bool.false_ne_true
  | str i =>
    obtain ⟨t, rfl⟩ := rx
    cases y with
    | non => cases ry; exact PySem.EqNone.eq_str_none (fin_bl I q (by simp))
    | bl j => cases ry; exact PySem.EqMixed.eq_str_bool (fin_bl I q (by simp))
    | int j => obtain ⟨t', rfl⟩ := ry; exact PySem.EqMixed.eq_str_int (fin_bl I q (by simp))
    | str j => obtain ⟨t', rfl⟩ := ry; exact eq_str (fin_bl I q dec_str)
    | _ => exact absurd (show false = true from hs) Bool.false_ne_true
  | byt i =>
    obtain ⟨t, rfl⟩ := rx
    cases y with
    | byt j => obtain ⟨t', rfl⟩ := ry; exact PySem.W.eq_bytes (fin_bl I q dec_byt)
    | _ => exact absurd (show false = true from hs) Bool.false_ne_true
  | _ => cases y <;> exact absurd (show false = true from hs) Bool.false_ne_true
theorem op_ne : OpR X (compareOp .NotEq) rNe := by
  intro pins s σ H x y v u Q I rx ry h
  obtain ⟨hs, q⟩ := h
  cases x with
  | non =>
    cases rx
    cases y with
    | non => cases ry; exact PySem.EqNone.ne_none_none (fin_bl I q (by simp))
    | bl j => cases ry; exact PySem.EqNone.ne_none_bool (fin_bl I q (by simp))
    | int j => obtain ⟨t', rfl⟩ := ry; exact PySem.EqNone.ne_none_int (fin_bl I q (by simp))
    | str j => obtain ⟨t', rfl⟩ := ry; exact PySem.EqNone.ne_none_str (fin_bl I q (by simp))
    | _ => exact absurd (show false = true from hs) Bool.false_ne_true
  | bl i =>
    cases rx
    cases y with
    | non => cases ry; exact PySem.EqNone.ne_bool_none (fin_bl I q (by simp))
    | bl j => cases ry; exact ne_bool (fin_bl I q (congrArg not dec_bl))
    | str j => obtain ⟨t', rfl⟩ := ry; exact PySem.EqMixed.ne_bool_str (fin_bl I q (by simp))
    | _ => exact absurd (show false = true from hs) Bool.false_ne_true
  | int i =>
    obtain ⟨t, rfl⟩ := rx
    cases y with
    | non => cases ry; exact PySem.EqNone.ne_int_none (fin_bl I q (by simp))
    | int j => obtain ⟨t', rfl⟩ := ry; exact ne_int (fin_bl I q (congrArg not dec_int))
    | str j => obtain ⟨t', rfl⟩ := ry; exact PySem.EqMixed.ne_int_str (fin_bl I q (by simp))
    | _ => exact absurd (show false = true from hs) Bool.false_ne_true
  | str i =>
    obtain ⟨t, rfl⟩ := rx
    cases y with
    | non => cases ry; exact PySem.EqNone.ne_str_none (fin_bl I q (by simp))
    | bl j => cases ry; exact PySem.EqMixed.ne_str_bool (fin_bl I q (by simp))
    | int j => obtain ⟨t', rfl⟩ := ry; exact PySem.EqMixed.ne_str_int (fin_bl I q (by simp))
    | str j => obtain ⟨t', rfl⟩ := ry; exact ne_str (fin_bl I q (congrArg not dec_str))
    | _ => exact absurd (show false = true from hs) Bool.false_ne_true
  | byt i =>
    obtain ⟨t, rfl⟩ := rx
    cases y with
    | byt j => obtain ⟨t', rfl⟩ := ry; exact PySem.W.ne_bytes (fin_bl I q (congrArg not dec_byt))
    | _ => exact absurd (show false = true from hs) Bool.false_ne_true
  | _ => cases y <;> exact absurd (show false = true from hs) Bool.false_ne_true

theorem op_lt : OpR X (compareOp .Lt) (rI0 fun i j => .bl (decide (i < j))) := opB0 fun _ _ _ _ _ _ _ q => lt_int q
theorem op_le : OpR X (compareOp .LtE) (rI0 fun i j => .bl (decide (i ≤ j))) := opB0 fun _ _ _ _ _ _ _ q => le_int q
theorem op_gt : OpR X (compareOp .Gt) (rI0 fun i j => .bl (decide (j < i))) := opB0 fun _ _ _ _ _ _ _ q => gt_int q
theorem op_isN : OpR X (compareOp .Is) (fun x y H Q => y = .non ∧ Q (.bl (decide (x = .non))) H) := by
  intro pins s σ H x y v u Q I rx ry h
  obtain ⟨rfl, q⟩ := h
  cases ry
  refine is_none_gen (fin_bl I q ?_)
  cases x <;> first
    | (cases rx; rfl)
    | (obtain ⟨t, rfl⟩ := rx; rfl)
theorem OpR.or {f : Value → Value → Sem Value} {r r' : R2} (h : OpR X f r) (h' : OpR X f r') : OpR X f (fun x y H Q => r x y H Q ∨ r' x y H Q) := by
  intro pins s σ H x y v u Q I rx ry q
  rcases q with q | q
  · exact h pins s σ H x y v u Q I rx ry q
  · exact h' pins s σ H x y v u Q I rx ry q

theorem nomark (b : Expr) {op : CmpOp} (h : op ≠ .In := by decide) (h2 : op ≠ .NotIn := by decide) : behindInMarks op b = false := by
  have e1 : (op == CmpOp.In) = false := by cases op <;> first | rfl | exact absurd rfl h
  have e2 : (op == CmpOp.NotIn) = false := by cases op <;> first | rfl | exact absurd rfl h2
  cases b <;> simp [behindInMarks, e1, e2]
theorem pe_cmpR {op : CmpOp} {r : R2} (ho : OpR X (compareOp op) r) (ha : PE X a ta) (hb : PE X b tb) (hm : behindInMarks op b = false) : PE X (.Compare a [op] [b] pos) (tOp r ta tb) := by
  intro pins s σ H Q I h
  exact wpAny_Compare1 (binT ha hb I h fun v u s2 x y H2 I2 rx ry q => ho pins s2 σ H2 x y v u Q I2 rx ry q) hm
def tTest (t : TE) : TT := fun σ H Q => t σ H fun x H' => ∃ k, x = .bl k ∧ Q k H'
theorem pt_cmpR {op : CmpOp} {r : R2} (ho : OpR X (compareOp op) r) (ha : PE X a ta) (hb : PE X b tb) (hm : behindInMarks op b = false) : PT X (.Compare a [op] [b] pos) (tTest (tOp r ta tb)) := by
  intro pins s σ H Q I h
  refine wpAny_isTrue_Compare1 (thn (ha pins s σ H _ I h) fun v s1 ⟨x, H1, I1, r1, q1⟩ => thn (hb pins s1 σ H1 _ I1 q1) fun u s2 ⟨y, H2, I2, r2, q2⟩ =>
    thn (ho pins s2 σ H2 x y v u _ I2 r1 r2 q2) fun c s3 ⟨z, H3, I3, r3, k, e, q3⟩ => ?_) hm
  subst e
  cases r3
  exact wpAny_truthy_bool ⟨H3, I3, q3⟩
def tChain (r r' : R2) (ta tb tc : TE) : TE := fun σ H Q => ta σ H fun x H1 => tb σ H1 fun y H2 => r x y H2 fun z H3 => ∃ k, z = .bl k ∧
  (if k = true then tc σ H3 fun w' H4 => r' y w' H4 Q else Q (.bl false) H3)
theorem pe_chain {op op' : CmpOp} {r r' : R2} (ho : OpR X (compareOp op) r) (ho' : OpR X (compareOp op') r') (ha : PE X a ta) (hb : PE X b tb) (hc : PE X c tc)
    (hm : lastMarks [op, op'] [b, c] = false := by with_unfolding_all rfl) : PE X (.Compare a [op, op'] [b, c] pos) (tChain r r' ta tb tc) := by
  intro pins s σ H Q I h
  refine Compare_chain (thn (ha pins s σ H _ I h) fun v s1 ⟨x, H1, I1, r1, q1⟩ => chain_link (thn (hb pins s1 σ H1 _ I1 q1) fun u s2 ⟨y, H2, I2, r2, q2⟩ =>
    thn (ho pins s2 σ H2 x y v u _ I2 r1 r2 q2) fun d s3 ⟨z, H3, I3, r3, k, e, q3⟩ => ?_)) hm
  subst e
  cases r3
  refine wpAny_truthy_bool ?_
  cases k with
  | false => exact ite_ff ⟨.bl false, H3, I3, rfl, q3⟩
  | true => exact ite_tt (chain_last (thn (hc pins s3 σ H3 _ I3 q3) fun w' s4 ⟨z', H4, I4, r4, q4⟩ => ho' pins s4 σ H4 y z' u w' Q I4 r2 r4 q4))
theorem pt_chain {op op' : CmpOp} {r r' : R2} (ho : OpR X (compareOp op) r) (ho' : OpR X (compareOp op') r') (ha : PE X a ta) (hb : PE X b tb) (hc : PE X c tc)
    (hm : lastMarks [op, op'] [b, c] = false := by with_unfolding_all rfl) : PT X (.Compare a [op, op'] [b, c] pos) (tTest (tChain r r' ta tb tc)) := by
  intro pins s σ H Q I h
  refine isTrue_chain (thn (ha pins s σ H _ I h) fun v s1 ⟨x, H1, I1, r1, q1⟩ => test_link (thn (hb pins s1 σ H1 _ I1 q1) fun u s2 ⟨y, H2, I2, r2, q2⟩ =>
    thn (ho pins s2 σ H2 x y v u _ I2 r1 r2 q2) fun d s3 ⟨z, H3, I3, r3, k, e, q3⟩ => ?_)) hm
  subst e
  cases r3
  refine wpAny_truthy_bool ?_
  cases k with
  | false =>
    obtain ⟨k', e', q'⟩ := q3
    cases e'
    exact ite_ff ⟨H3, I3, q'⟩
  | true =>
    refine ite_tt (test_last (thn (hc pins s3 σ H3 _ I3 q3) fun w' s4 ⟨z', H4, I4, r4, q4⟩ => thn (ho' pins s4 σ H4 y z' u w' _ I4 r2 r4 q4) fun d' s5 ⟨z2, H5, I5, r5, k2, e2, q5⟩ => ?_))
    subst e2
    cases r5
    exact wpAny_truthy_bool ⟨H5, I5, q5⟩

def TruV (K : PySem.W.Frag) (x : V) (H : Hp) (k : Bool) : Prop :=
  match x with
  | .non => k = false
  | .bl b => k = b
  | .int i => k = (i != 0)
  | .str y => y.length ≤ sizeLine ∧ k = ((y.length : Int) != 0)
  | .byt y => y.size ≤ sizeLine ∧ k = ((y.size : Int) != 0)
  | .ref p => (∃ xs, SqL K H p xs ∧ k = !xs.isEmpty) ∨ (∃ xs, SqT K H p xs ∧ k = !xs.isEmpty) ∨ ∃ kvs, H p = some (.dK kvs) ∧ k = !kvs.isEmpty
  | _ => False
theorem isEmpty_kv {κ : Type} {kvs : List (κ × V)} {vs : List (κ × Value)} (r : KV kvs vs) : (!vs.isEmpty) = !kvs.isEmpty := by
  cases r <;> rfl
theorem isEmpty_of {xs : List V} {its : List Value} (r : Vals xs its) : (!its.toArray.isEmpty) = !xs.isEmpty := by
  cases r <;> simp
theorem line63 : (sizeLine : Nat) < 2 ^ 63 := by rw [sizeLine_eq]; decide
theorem tru_ok : TruR X (fun x H Q => ∃ k, TruV X.K x H k ∧ Q k H) := by
  intro pins s σ H x v Q I rx h
  obtain ⟨k, e, q⟩ := h
  have hl := line63
  have hs : sizeLine = 16777216 := sizeLine_eq
  cases x with
  | non =>
    cases rx
    have e' : k = false := e
    subst e'
    exact truthy_none ⟨H, I, q⟩
  | bl b =>
    cases rx
    have e' : k = b := e
    subst e'
    exact wpAny_truthy_bool ⟨H, I, q⟩
  | int i =>
    obtain ⟨t, rfl⟩ := rx
    have e' : k = (i != 0) := e
    subst e'
    exact PySem.P.truthy_int ⟨H, I, q⟩
  | str y =>
    obtain ⟨t, rfl⟩ := rx
    obtain ⟨hy, e'⟩ : y.length ≤ sizeLine ∧ k = ((y.length : Int) != 0) := e
    subst e'
    exact PySem.P.truthy_str (by omega) ⟨H, I.tok _, q⟩
  | byt y =>
    obtain ⟨t, rfl⟩ := rx
    obtain ⟨hy, e'⟩ : y.size ≤ sizeLine ∧ k = ((y.size : Int) != 0) := e
    subst e'
    exact PySem.W.truthy_bytes (by omega) ⟨H, I.tok _, q⟩
  | ref p =>
    cases rx
    have e' : (∃ xs, SqL X.K H p xs ∧ k = !xs.isEmpty) ∨ (∃ xs, SqT X.K H p xs ∧ k = !xs.isEmpty) ∨ ∃ kvs, H p = some (.dK kvs) ∧ k = !kvs.isEmpty := e
    rcases e' with ⟨xs, hx, e'⟩ | ⟨xs, hx, e'⟩ | ⟨kvs, hx, e'⟩
    · subst e'
      obtain ⟨its, r, pl, hz⟩ := I.list hx
      have hlen := r.length
      exact wpAny_truthy_list pl.isList (by simp only [List.size_toArray]; omega) ⟨H, I.tok _, by rw [isEmpty_of r]; exact q⟩
    · subst e'
      obtain ⟨its, r, pl, hz⟩ := I.tuple hx
      have hlen := r.length
      exact truthy_tuple pl (by simp only [List.size_toArray]; omega) ⟨H, I.tok _, by rw [isEmpty_of r]; exact q⟩
    · subst e'
      obtain ⟨hz, hS, vs, r, m⟩ : kvs.length ≤ sizeLine ∧ (p == sysModules) = false ∧ ∃ vs, KV kvs vs ∧ s.heap.DictOf (mixKind X.prog X.w) p vs := I.hok p _ hx
      have hlen : kvs.length = vs.length := Paired.length r
      exact wpAny_truthy_dict hS m (by omega) ⟨H, I.tok _, by rw [isEmpty_kv r]; exact q⟩
  | _ => exact (show False from e).elim
theorem pt_truth (ha : PE X a ta) (he : ∀ whole, isTrue a X.env whole = (do let v ← whole; standAt a.pos; holding [v] (truthy v))) :
    PT X a (fun σ H Q => ta σ H fun x H' => ∃ k, TruV X.K x H' k ∧ Q k H') := by
  intro pins s σ H Q I h
  exact isTrue_plain (thn (ha pins s σ H _ I h) fun v s1 ⟨x, H1, I1, r1, q1⟩ => tru_ok pins s1 σ H1 x v Q I1 r1 q1) (he _)

theorem vals1 {x : V} {us : List Value} (r : Vals [x] us) : ∃ u, us = [u] ∧ RelV x u := by
  cases r with
  | cons r1 r2 => cases r2; exact ⟨_, rfl, r1⟩
theorem vals2 {x y : V} {us : List Value} (r : Vals [x, y] us) : ∃ u w', us = [u, w'] ∧ RelV x u ∧ RelV y w' := by
  cases r with
  | cons r1 r2 =>
    cases r2 with
    | cons r3 r4 => cases r4; exact ⟨_, _, rfl, r1, r3⟩
theorem call_abs : CallR X (.builtin "abs") (fun xs H Q => ∃ i, xs = [.int i] ∧ Q (.int (if i < 0 then -i else i)) H) := by
  intro pins s σ H xs us Q I r h
  obtain ⟨i, rfl, q⟩ := h
  obtain ⟨u, rfl, t, rfl⟩ := vals1 r
  exact call_abs_int fun u tk => ⟨.int (if i < 0 then -i else i), H, I.tok _, ⟨_, rfl⟩, q⟩
theorem call_int1 : CallR X (.type "int") (fun xs H Q => (∃ i, xs = [.int i] ∧ Q (.int i) H) ∨ ∃ k, xs = [.bl k] ∧ Q (.int (if k then 1 else 0)) H) := by
  intro pins s σ H xs us Q I r h
  rcases h with ⟨i, rfl, q⟩ | ⟨k, rfl, q⟩
  · obtain ⟨u, rfl, t, rfl⟩ := vals1 r
    exact call_int_int ⟨.int i, H, I, ⟨_, rfl⟩, q⟩
  · obtain ⟨u, rfl, r1⟩ := vals1 r
    cases r1
    exact call_int_bool ⟨.int (if k then 1 else 0), H, I.tok _, ⟨_, rfl⟩, q⟩
end
end L2

namespace L2
open PySem PySem.Spec PyProof.Rows

structure ObjM (h : Heap) (x dx C : Addr) (mA : Str → Option Value) : Prop where
  obj : h.get? x = some (PySem.W.instObj C dx)
  ns : h.Ns1 dx mA
  ne : dx ≠ x

theorem lookIn_ns {h : Heap} {dx : Addr} {mA : Str → Option Value} (n : h.Ns1 dx mA) : ∃ od, h.get? dx = some od ∧ ∀ name, PySem.W.lookIn name od = some (mA name) := by
  obtain ⟨o, es, ep, ho, hd, hk, _, hm⟩ := n
  refine ⟨o, ho, fun name => ?_⟩
  have e := hm name
  unfold nsFind findBy at e
  rw [← Array.find?_toList] at e
  unfold PySem.W.lookIn
  rw [hd]
  dsimp only
  split
  · rename_i y q
    rw [q] at e
    exact congrArg some e
  · rename_i q
    rw [q] at e
    have a : es.toList.any (·.refKey) = false := by
      rw [List.any_eq_false]
      intro y hy
      obtain ⟨z, t, hkey⟩ := hk y (Array.mem_toList_iff.mp hy)
      simp [DictEntry.refKey, hkey]
    have a' : ¬ es.toList.any (·.refKey) = true := by rw [a]; exact Bool.false_ne_true
    rw [if_neg a']
    exact congrArg some e

theorem ObjM.look {h : Heap} {x dx C : Addr} {mA : Str → Option Value} (I : ObjM h x dx C mA) : ∃ od, PySem.W.InstAt h x (PySem.W.instObj C dx) C (some od) ∧ ∀ name, PySem.W.lookIn name od = some (mA name) :=
  let ⟨od, ho, hl⟩ := lookIn_ns I.ns
  ⟨od, ⟨I.obj, rfl, rfl, ho⟩, hl⟩

section
variable {prog : Program} {w : World} {A : Around} {E : Value → Shared → Prop} {s : Shared} {K : PySem.W.Frag} {x dx C f : Addr} {mA : Str → Option Value} {name : Str} {v : Value}

end

section
variable {P : Program} {w : World} {H H' : Hp} {h h' : Heap} {a C dx : Addr} {fs fs' : List (Str × V)}
theorem ins_get (hok : HOk P w H h) (e : H a = some (.ins C dx fs)) : ∃ mA, ObjM h a dx C mA ∧ (∀ f, RelO (fs.lookup f) (mA f)) ∧ PySem.Within mA (fs.map (·.1)) ∧ fs.length ≤ 1000 ∧ H dx = some (.own a) := by
  obtain ⟨d, z, ne, ob, mA, n, r, q⟩ := (show ObjOk P w H h a (.ins C dx fs) from hok a _ e)
  exact ⟨mA, ⟨ob, n, ne⟩, r, q, z, d⟩
end

structure Cls (K : PySem.W.Frag) (C : Addr) : Prop where
  pg : PySem.W.plainGet K C Str.empty = true
  hd : PySem.W.hasDictIn K C = true
  po : PySem.W.plainOver K C = true
  sa : PySem.W.findIn K (.ref C) "__setattr__" = some (some (.builtin "object.__setattr__"))
theorem Cls.get {K : PySem.W.Frag} {C : Addr} (c : Cls K C) (f : Str) : PySem.W.plainGet K C f = true := c.pg
section
variable {X : Cx} {pins : List (Addr × Obj)} {σ : St} {H : Hp} {s : Shared} {a C dx : Addr} {fs : List (Str × V)} {f : Str} {v : V} {A : Around} {E : Value → Shared → Prop}

end

section
variable {X : Cx} {o e value : Expr} {f : Str} {pos pos' tpos : Pos} {ta tv : TE}
end

section
variable {X : Cx} {pins : List (Addr × Obj)} {σ : St} {H : Hp} {s : Shared} {A : Around} {E : Value → Shared → Prop} {Q : Value → Shared → Prop} {c : Value} {b : Bool}
inductive TyOf (K : PySem.W.Frag) (H : Hp) : V → Value → Prop where
  | non : TyOf K H .non (.type "NoneType")
  | bl (x : Bool) : TyOf K H (.bl x) (.type "bool")
  | int (i : Int) : TyOf K H (.int i) (.type "int")
  | str (x : Str) : TyOf K H (.str x) (.type "str")
  | flt (x : UInt64) : TyOf K H (.flt x) (.type "float")
  | lst {a : Addr} {xs : List V} (e : H a = some (.lst xs)) : TyOf K H (.ref a) (.type "list")
  | frz {a : Addr} {o : Obj} {xs : List V} (e : H a = some (.frz o (.lst xs))) : TyOf K H (.ref a) (.type "list")
  | tup {a : Addr} {xs : List V} (e : H a = some (.tup xs)) : TyOf K H (.ref a) (.type "tuple")
  | dK {a : Addr} {kvs : List (Key × V)} (e : H a = some (.dK kvs)) : TyOf K H (.ref a) (.type "dict")
  | dT {a : Addr} {kvs : List (List Key × V)} (e : H a = some (.dT kvs)) : TyOf K H (.ref a) (.type "dict")
  | ins {a C dx : Addr} {fs : List (Str × V)} (e : H a = some (.ins C dx fs)) (cl : Cls K C) (ha : PySem.W.findIn K (.ref C) "__class__" = some (some (.builtin "object.__class__")))
      (hn : PySem.W.specialIn K (.builtin "object.__class__") "__get__" = some (some (.builtin "getset_descriptor.__get__"))) (htk : PySem.W.takesIn K (.builtin "object.__class__") = some true)
      (hm : PySem.W.mroIn K C (.type "object") = some true) : TyOf K H (.ref a) (.ref C)
end
end L2

namespace L2
open PySem PySem.Spec PyProof.Rows

structure Room (k : Nat) (A : Around) : Prop where
  hd : A.handled = none
  dp : A.depth + 3 * k + 5 < recursionLimit
  un : A.units + 16 * k + 200 < cLine
theorem Room.mono {j k : Nat} {A : Around} (r : Room k A) (h : j ≤ k) : Room j A := ⟨r.hd, by have := r.dp; omega, by have := r.un; omega⟩
theorem Room.deeper {k : Nat} {A : Around} (r : Room (k + 1) A) (env : Env) : Room k (A.deeper env) :=
  ⟨r.hd, by have := r.dp; show A.depth + 1 + 3 * k + 5 < _; omega, by have := r.un; show A.units + 3 + 16 * k + 200 < _; omega⟩
theorem Room.in1 {k : Nat} {A : Around} (r : Room (k + 1) A) : Room k A.in1 :=
  ⟨r.hd, by have := r.dp; show A.depth + 3 * k + 5 < _; omega, by have := r.un; show A.units + 1 + 16 * k + 200 < _; omega⟩
theorem Room.depth {k : Nat} {A : Around} (r : Room k A) : A.depth < recursionLimit := by have := r.dp; omega
theorem Room.units {k : Nat} {A : Around} (r : Room k A) : A.units + 64 < cLine := by have := r.un; omega
def tNil : TA := fun _ H Q => Q [] H
def tCons (ta : TE) (tr : TA) : TA := fun σ H Q => ta σ H fun x H1 => tr σ H1 fun xs H2 => Q (x :: xs) H2
section
variable {X : Cx} {e : Expr} {es : List Expr} {te : TE} {t : TA} {pos : Pos}
theorem pa_nil : PA X [] tNil := fun _ _ _ _ H Q I h => Calls.spliced_nil ⟨[], H, I, .nil, h⟩
theorem pa_cons (ha : PE X e te) (hr : PA X es t) (hs : starEach (e :: es) X.env = (false, eval e X.env) :: starEach es X.env := by rfl) : PA X (e :: es) (tCons te t) := by
  intro pos pins s σ H Q I h
  rw [hs]
  show wpAny _ _ (spliced ((false, eval e X.env) :: backTo pos (starEach es X.env))) _ _ s
  refine Calls.spliced_cons (thn (ha pins s σ H _ I h) fun u s1 ⟨x, H1, I1, r1, q1⟩ => ?_)
  exact thn (hr pos pins s1 σ H1 _ I1 q1) fun us s2 ⟨xs, H2, I2, r2, q2⟩ => ⟨x :: xs, H2, I2, .cons r1 r2, q2⟩

def tTup (t : TA) : TE := fun σ H Q => t σ H fun xs H1 => xs.length ≤ sizeLine ∧ ∀ p, H1 p = none → Q (.ref p) (upd H1 p (.tup xs))
def tLst (t : TA) : TE := fun σ H Q => t σ H fun xs H1 => xs.length ≤ sizeLine ∧ ∀ p, H1 p = none → Q (.ref p) (upd H1 p (.lst xs))
theorem pe_tup {x1} (h : PA X es t) : PE X (.Tuple es x1 pos) (tTup t) := by
  intro pins s σ H Q I hq
  refine wpAny_Tuple_spliced (thn (h pos pins s σ H _ I hq) fun us s1 ⟨xs, H1, I1, r, z, q⟩ => ⟨by rw [← r.length]; exact z, ?_⟩)
  have hf : H1 s1.heap.objs.size = none := I1.hok.fresh (Nat.le_refl _)
  refine ⟨.ref s1.heap.objs.size, upd H1 s1.heap.objs.size (.tup xs), I1.laid (t' := s1.toks) (fun b u e => Heap.get?_push_of_some _ e) (Nat.le_refl _) ?_, rfl, q _ hf⟩
  exact ⟨z, us, r, ⟨_, Heap.get?_push_size _ rfl, rfl, _, rfl⟩⟩
theorem pe_lst (h : PA X es t) : PE X (.List es pos) (tLst t) := by
  intro pins s σ H Q I hq
  refine wpAny_List_spliced (thn (h pos pins s σ H _ I hq) fun us s1 ⟨xs, H1, I1, r, z, q⟩ => ⟨by rw [← r.length]; exact z, ?_⟩)
  have hf : H1 s1.heap.objs.size = none := I1.hok.fresh (Nat.le_refl _)
  refine ⟨.ref s1.heap.objs.size, upd H1 s1.heap.objs.size (.lst xs), I1.laid (t' := s1.toks) (fun b u e => Heap.get?_push_of_some _ e) (Nat.le_refl _) ?_, rfl, q _ hf⟩
  exact ⟨z, us, 0, r, Heap.get?_push_size _ rfl⟩
end

abbrev Sp := List V → Hp → VK → XK → Prop
abbrev CXT := List Env → Hp → Shared → XK → Value → Shared → Prop

structure Env0 (P : Program) (w : World) (K : PySem.W.Frag) (mg : Str → Option Value) (base : Heap) (A : Around) (outer : List Env) (s : Shared) (H : Hp) : Prop where
  frames : A.frames = some outer
  mod : Mod K mg base
  bs : ∀ b o, base.get? b = some o → s.heap.get? b = some o ∧ H b = none
  bsz : base.objs.size ≤ s.heap.objs.size
  funs : s.heap.FunFrames base outer
  frf : ∀ b ∈ frs outer, H b = none
  hok : HOk P w H s.heap
  bare : AllBare s.gens
def CE (outer : List Env) (P : Program) (w : World) (H : Hp) (s : Shared) (Q : VK) (u : Value) (s' : Shared) : Prop :=
  ∃ v H', s'.os = s.os ∧ AllBare s'.gens ∧ Un (frs outer) [] H H' s.heap s'.heap ∧ HOk P w H' s'.heap ∧ RelV v u ∧ Q v H'
def CR (CX : CXT) (outer : List Env) (P : Program) (w : World) (H : Hp) (s : Shared) (Q : VK) (E : XK) (r : Result) (s' : Shared) : Prop :=
  match r with
  | .ok (.ret u) => CE outer P w H s Q u s'
  | .ok _ => False
  | .error e => CX outer H s E e s'
structure FnOk (P : Program) (w : World) (K : PySem.W.Frag) (mg : Str → Option Value) (base : Heap) (CX : CXT) (k : Nat) (f : Addr) (fd : FuncData) (ps : List Str) (sp : Sp) : Prop where
  len : ∀ vs H Q E, sp vs H Q E → vs.length = ps.length
  run : ∀ (A : Around) (outer : List Env) (s : Shared) (H : Hp) (args : Args) (us : List Value) (vs : List V) (Q : VK) (E : XK), Room k A → Env0 P w K mg base A outer s H → BindsTo s fd args (ps.zip us) → Vals vs us → sp vs H Q E →
    codeAny (model P w) A (.call (.ref f) args) (CR CX outer P w H s Q E) s
theorem FnOk.mono {P : Program} {w : World} {K : PySem.W.Frag} {mg : Str → Option Value} {base : Heap} {CX : CXT} {j k : Nat} {f : Addr} {fd : FuncData} {ps : List Str} {sp : Sp} (F : FnOk P w K mg base CX j f fd ps sp) (h : j ≤ k) :
    FnOk P w K mg base CX k f fd ps sp := ⟨F.len, fun A outer s H args us vs Q E hr => F.run A outer s H args us vs Q E (hr.mono h)⟩
theorem FnOk.imp {P : Program} {w : World} {K : PySem.W.Frag} {mg : Str → Option Value} {base : Heap} {CX : CXT} {k : Nat} {f : Addr} {fd : FuncData} {ps : List Str} {sp sp' : Sp} (F : FnOk P w K mg base CX k f fd ps sp)
    (h : ∀ vs H Q E, sp' vs H Q E → sp vs H Q E) : FnOk P w K mg base CX k f fd ps sp' :=
  ⟨fun vs H Q E q => F.len vs H Q E (h _ _ _ _ q), fun A outer s H args us vs Q E hr he hb hv hs => F.run A outer s H args us vs Q E hr he hb hv (h _ _ _ _ hs)⟩

theorem Env0.in1 {P : Program} {w : World} {K : PySem.W.Frag} {mg : Str → Option Value} {base : Heap} {A : Around} {outer : List Env} {s : Shared} {H : Hp} (e : Env0 P w K mg base A outer s H) :
    Env0 P w K mg base A.in1 outer s H := ⟨e.frames, e.mod, e.bs, e.bsz, e.funs, e.frf, e.hok, e.bare⟩

section
variable {X : Cx} {pins : List (Addr × Obj)} {σ : St} {H : Hp} {s s' : Shared}
theorem Inv.env0 (I : Inv X pins σ H s) : Env0 X.prog X.w X.K X.mg X.base X.A X.stack s H :=
  ⟨I.ok.frames, I.ok.mod, I.bs, Nat.le_trans I.ok.bsz I.sz, I.stack, I.stkFree, I.hok, I.bare⟩
theorem Inv.after {Q : VK} {u : Value} (I : Inv X pins σ H s) (h : CE X.stack X.prog X.w H s Q u s') : EP X pins σ Q u s' := by
  obtain ⟨v, H', os, bare, un, hok, r, q⟩ := h
  obtain ⟨hh, g, d, t, os'⟩ := s'
  obtain rfl : os' = s.os := os
  exact ⟨v, H', I.call (h' := hh) (g' := g) (d' := d) (t' := t) (ch := []) un hok bare (fun b z => absurd z (by simp)), r, q⟩
end

def tCall (sp : Sp) (dvs : List V) (E : XK) (t : TA) : TE := fun σ H Q => t σ H fun vs H1 => sp (vs ++ dvs) H1 Q E
def Binds (K : PySem.W.Frag) (fd : FuncData) (ps : List Str) (ds : List Value) : Prop :=
  ∀ (s : Shared) (us : List Value), K.In s.heap → (us ++ ds).length = ps.length → BindsTo s fd ⟨us, []⟩ (ps.zip (us ++ ds))
theorem Binds.all {K : PySem.W.Frag} {fd : FuncData} {ps : List Str} (h : ∀ us : List Value, us.length = ps.length → bindArgs fd ⟨us, []⟩ = pure (ps.zip us)) : Binds K fd ps [] := fun s us _ hl => by
  rw [List.append_nil] at hl ⊢
  exact .of_eq (h us hl)

def Passes (CX : CXT) (X : Cx) (E : XK) : Prop := ∀ (pins : List (Addr × Obj)) (σ : St) (H : Hp) (s : Shared) (e : Value) (s' : Shared), Inv X pins σ H s → CX X.stack H s E e s' → X.xe e s'

section
variable {X : Cx} {CX : CXT} {k : Nat} {f C : Addr} {fd : FuncData} {ps : List Str} {sp : Sp} {dvs : List V} {ds : List Value} {E : XK} {x m : Str} {p pos apos : Pos} {e o : Expr} {es : List Expr} {ta : TE} {t : TA}

theorem run_fn {pins : List (Addr × Obj)} {σ : St} {H : Hp} {s : Shared} {Q : VK} {us : List Value} {vs : List V} (F : FnOk X.prog X.w X.K X.mg X.base CX k f fd ps sp) (hr : Room k X.A) (hb : Binds X.K fd ps ds) (hd : Vals dvs ds) (hx : Passes CX X E)
    (I : Inv X pins σ H s) (r : Vals vs us) (h : sp (vs ++ dvs) H Q E) : wpAny (model X.prog X.w) X.A (call (.ref f) us) (EP X pins σ Q) X.xe s := by
  have r2 : Vals (vs ++ dvs) (us ++ ds) := r.append hd
  have hl : (us ++ ds).length = ps.length := by rw [← r2.length]; exact F.len _ _ _ _ h
  refine wpAny_call (codeAny_mono (F.run X.A X.stack s H ⟨us, []⟩ (us ++ ds) (vs ++ dvs) Q E hr I.env0 (hb s us I.kIn hl) r2 h) fun r s' hq => ?_)
  cases r with
  | error e => exact hx pins σ H s e s' I hq
  | ok fl =>
    cases fl with
    | ret u => exact I.after hq
    | next => exact False.elim hq
    | brk => exact False.elim hq
    | cont => exact False.elim hq

theorem pe_call (F : FnOk X.prog X.w X.K X.mg X.base CX k f fd ps sp) (hr : Room k X.A) (hg : Gl X x) (hm : X.mg x = some (.ref f)) (hk : PySem.W.keepIn X.K (.ref f) = true) (hb : Binds X.K fd ps ds) (hd : Vals dvs ds) (hx : Passes CX X E)
    (ha : PA X (e :: es) t) (hdb : (x == ("__debug__" : Str)) = false := by decide) (he : starEach (e :: es) X.env = (false, eval e X.env) :: starEach es X.env := by rfl) (hpl : (backTo pos (starEach es X.env)).any (·.1) = false := by rfl) :
    PE X (.Call (.Name x p) (e :: es) [] pos) (tCall sp dvs E t) := by
  intro pins s σ H Q I h
  refine wpAny_Call_Name_kw (ld_glob I hg hm ?_ hdb)
  refine PySem.W.callWith_K (h₀ := X.base) I.ok.mod.kin hk (thn (ha pos pins s σ H _ I h) fun us s1 ⟨vs, H1, I1, r, q⟩ => ⟨I1.kIn, ?_⟩) he hpl
  exact run_fn F hr hb hd hx I1 r q
end

section
variable {X : Cx} {CX : CXT} {k : Nat} {f C : Addr} {fd : FuncData} {ps ks : List Str} {sp : Sp} {E : XK} {x m : Str} {p pos apos kpos : Pos} {e o : Expr} {es : List Expr} {kws : List Keyword} {te ta : TE} {t tk : TA} {nm : Option Str}
variable {g : List Value → List Value → List Value} {gV : List V → List V → List V}
end

structure FnScope (N P : List Str) (sc : Scope) : Prop where
  kind : sc.kind = .function
  co : sc.isCoroutine = false
  gen : sc.isGenerator = false
  nd : N.Nodup
  pre : N.take P.length = P
  par : ∀ x ∈ P, sc.names.lookup x = some .local ∨ sc.names.lookup x = some .cell
  nofree : ∀ y ∈ sc.names, y.2 ≠ .free

theorem bindL_out {kindOf : Str → Option NameKind} {x : Str} : ∀ {binds : List (Str × Value)} {m : Str → Option Value}, (∀ v, (x, v) ∉ binds) → bindL kindOf binds m x = m x
  | [], _, _ => rfl
  | (n, v) :: r, m, h => by
    unfold bindL
    rw [bindL_out fun w hw => h w (List.mem_cons_of_mem _ hw)]
    split
    · have : x ≠ n := by rintro rfl; exact h v List.mem_cons_self
      simp [this]
    · rfl
theorem bindC_out {kindOf : Str → Option NameKind} {x : Str} : ∀ {binds : List (Str × Value)} {m : Str → Option Value}, (∀ v, (x, v) ∉ binds) → bindC kindOf binds m x = m x
  | [], _, _ => rfl
  | (n, v) :: r, m, h => by
    unfold bindC
    rw [bindC_out fun w hw => h w (List.mem_cons_of_mem _ hw)]
    split
    · rfl
    · have : x ≠ n := by rintro rfl; exact h v List.mem_cons_self
      simp [this]
theorem bindL_get {kindOf : Str → Option NameKind} {x : Str} {v : Value} : ∀ {P : List Str} {vs : List Value} {i : Nat} {m : Str → Option Value}, P.Nodup → P[i]? = some x → vs[i]? = some v → kindOf x = some .local →
    bindL kindOf (P.zip vs) m x = some v
  | [], _, _, _, _, h, _, _ => by simp at h
  | _ :: _, [], _, _, _, _, h, _ => by simp at h
  | p :: P, w :: vs, 0, m, nd, h1, h2, hk => by
    simp at h1 h2; subst h1; subst h2
    show bindL kindOf ((p, w) :: P.zip vs) m p = _
    unfold bindL
    rw [bindL_out fun v hv => (List.nodup_cons.mp nd).1 (List.of_mem_zip hv).1, if_pos hk]
    simp
  | p :: P, w :: vs, i + 1, m, nd, h1, h2, hk => by
    show bindL kindOf ((p, w) :: P.zip vs) m x = _
    unfold bindL
    exact bindL_get (i := i) (List.nodup_cons.mp nd).2 (by simpa using h1) (by simpa using h2) hk
theorem bindC_get {kindOf : Str → Option NameKind} {x : Str} {v : Value} : ∀ {P : List Str} {vs : List Value} {i : Nat} {m : Str → Option Value}, P.Nodup → P[i]? = some x → vs[i]? = some v → kindOf x ≠ some .local →
    bindC kindOf (P.zip vs) m x = some v
  | [], _, _, _, _, h, _, _ => by simp at h
  | _ :: _, [], _, _, _, _, h, _ => by simp at h
  | p :: P, w :: vs, 0, m, nd, h1, h2, hk => by
    simp at h1 h2; subst h1; subst h2
    show bindC kindOf ((p, w) :: P.zip vs) m p = _
    unfold bindC
    rw [bindC_out fun v hv => (List.nodup_cons.mp nd).1 (List.of_mem_zip hv).1, if_neg hk]
    simp
  | p :: P, w :: vs, i + 1, m, nd, h1, h2, hk => by
    show bindC kindOf ((p, w) :: P.zip vs) m x = _
    unfold bindC
    exact bindC_get (i := i) (List.nodup_cons.mp nd).2 (by simpa using h1) (by simpa using h2) hk

def start (N : List Str) (vs : List V) : St := vs.map some ++ List.replicate (N.length - vs.length) none

def cxOf (CX : CXT) (P : Program) (w : World) (K : PySem.W.Frag) (mg : Str → Option Value) (base : Heap) (N : List Str) (qual : Str) (scope : Scope) (f : Addr) (cd : Value) (A : Around) (outer : List Env) (s : Shared) (H : Hp) (E : XK) : Cx where
  prog := P
  w := w
  K := K
  mg := mg
  base := base
  A := A.deeper (envOfC qual scope s.heap.objs.size f cd)
  N := N
  s₀ := s
  H₀ := H
  env := envOfC qual scope s.heap.objs.size f cd
  outer := outer
  stack := envOfC qual scope s.heap.objs.size f cd :: outer
  ex := []
  calm := true
  fn := fun _ => true
  pn := []
  xe := fun e s' => wpAny (model P w) (A.deeper (envOfC qual scope s.heap.objs.size f cd)) (leaving (envOfC qual scope s.heap.objs.size f cd) e) (fun _ s'' => CX outer H s E e s'') (fun e' s'' => CX outer H s E e' s'') s'

theorem cell_has {sc : Scope} {n : Nat} {x : Str} (h : sc.names.lookup x = some .cell) : ∃ c, (cellsFrom n sc.names []).lookup x = some c := by
  have q := PySem.W.cellsFrom_some sc.names n [] (.inl h)
  exact Option.isSome_iff_exists.mp q

theorem inv_start {CX : CXT} {P : Program} {w : World} {K : PySem.W.Frag} {mg : Str → Option Value} {base : Heap} {N ps : List Str} {qual : Str} {scope : Scope} {f : Addr} {cd : Value} {A : Around} {outer : List Env} {s s1 : Shared} {H : Hp} {E : XK} {us : List Value} {vs : List V}
    (S : FnScope N ps scope) (hd : A.handled = none) (e0 : Env0 P w K mg base A outer s H) (hl : vs.length = ps.length) (r : Vals vs us)
    (x : InCallC s s.heap.objs.size (bindL (envOfC qual scope s.heap.objs.size f cd).kindOf (ps.zip us) fun _ => none) (cellsFrom (s.heap.objs.size + 1) scope.names []) (bindC (envOfC qual scope s.heap.objs.size f cd).kindOf (ps.zip us) fun _ => none) s1) :
    Inv (cxOf CX P w K mg base N qual scope f cd A outer s H E) [] (start N vs) H s1 := by
  have hpl : ps.length ≤ N.length := by have := congrArg List.length S.pre; rw [List.length_take] at this; omega
  obtain ⟨h1, tk, rfl, hk⟩ := x.done
  have noA : ∀ b : Addr, b ∉ (cxOf CX P w K mg base N qual scope f cd A outer s H E).ex := fun b z => absurd (show b ∈ ([] : List Addr) from z) (by simp)
  refine ⟨⟨e0.mod, S.kind, rfl, rfl, Nat.le_refl _, fun y z c h1 h2 => ?_, fun y hy => ?_, fun y c _ h => ?_, fun _ => hd, Around.frames_deeper e0.frames, .inr ⟨rfl, rfl⟩, fun b z => absurd z (noA b), e0.bs, e0.bsz, fun b _ _ => noA b, fun b z => absurd z (noA b), e0.funs, e0.frf⟩,
    rfl, e0.bare, Un.kept hk, ⟨_, x.toInCall.ns, fun i y v h1 h2 h3 => ?_⟩, fun y c h => ⟨_, x.cell y c h⟩, e0.hok.fresh (Nat.le_refl _), fun y c h => ?_, fun p hp => absurd (show p ∈ ([] : List (Addr × Obj)) from hp) (by simp), e0.hok.kept hk, ?_⟩
  · exact name_of_addr x.apart (PySem.mem_of_lookup h1) (PySem.mem_of_lookup h2)
  · have hy : scope.names.lookup y = some .cell ∨ scope.names.lookup y = some .free := hy
    rcases hy with hy | hy
    · exact cell_has hy
    · exact absurd rfl (S.nofree _ (PySem.mem_of_lookup hy))
  · exact Nat.le_of_lt (x.above y c (PySem.mem_of_lookup h))
  · have hi : i < vs.length := by
      unfold start at h2
      by_cases hi : i < vs.length
      · exact hi
      · rw [List.getElem?_append_right (by simpa using hi)] at h2
        rw [List.getElem?_replicate] at h2
        split at h2 <;> cases h2
    have ha : vs[i]? = some v := by
      unfold start at h2
      rw [List.getElem?_append_left (by simpa using hi), List.getElem?_map] at h2
      cases e : vs[i]? with
      | none => rw [e] at h2; cases h2
      | some a => rw [e] at h2; cases h2; rfl
    obtain ⟨u, hu, rv⟩ := r.get ha
    have hp : ps[i]? = some y := by
      rw [← S.pre, List.getElem?_take_of_lt (by omega)]; exact h1
    have ndP : ps.Nodup := by rw [← S.pre]; exact S.nd.sublist (List.take_sublist _ _)
    refine ⟨u, rv, ?_⟩
    rcases S.par y (List.mem_of_getElem? hp) with k | k
    · exact .inl ⟨k, bindL_get ndP hp hu k⟩
    · obtain ⟨c, e⟩ := cell_has (n := s.heap.objs.size + 1) k
      refine .inr ⟨.inl k, c, e, ?_⟩
      have q := x.cell y c e
      rw [bindC_get ndP hp hu (by show scope.names.lookup y ≠ _; rw [k]; decide)] at q
      exact q
  · exact e0.hok.fresh (Nat.le_of_lt (x.above y c (PySem.mem_of_lookup h)))
  · unfold start
    show _ = N.length
    rw [List.length_append, List.length_map, List.length_replicate]
    omega

theorem fn_of {CX : CXT} {P : Program} {w : World} {K : PySem.W.Frag} {mg : Str → Option Value} {base : Heap} {k : Nat} {f : Addr} {name qual : Str} {params : Arguments} {body : List Stmt} {scope : Scope} {dV kV doc pm cdv ct oc : Value} {an od : Option Addr}
    {osl : Array (Option Value)} {N ps : List Str} {sp : Sp} (lk : K.lookup f = some ⟨oc, od, .func (PySem.W.fnOf name qual params body scope dV kV doc pm an cdv ct), osl⟩) (hcd : PySem.W.codeIn K cdv qual = true) (S : FnScope N ps scope)
    (len : ∀ vs H Q E, sp vs H Q E → vs.length = ps.length)
    (hbody : ∀ (A : Around) (outer : List Env) (s : Shared) (H : Hp) (vs : List V) (Q : VK) (E : XK), Room k (A.deeper (envOfC qual scope s.heap.objs.size f cdv)) → sp vs H Q E →
      ∃ t, PSs (cxOf CX P w K mg base N qual scope f cdv A outer s H E) body t ∧ t { nx := fun _ H' => Q .non H', rt := Q } (start N vs) H) :
    FnOk P w K mg base CX (k + 1) f (PySem.W.fnOf name qual params body scope dV kV doc pm an cdv ct) ps sp := by
  refine ⟨len, fun A outer s H args us vs Q E hr e0 hb r hsp => ?_⟩
  have hl := len _ _ _ _ hsp
  have KX : K.In s.heap := e0.mod.kin.keeps fun b o e => (e0.bs b o e).1
  have lim : s.heap.NoLimit := e0.mod.nolimit.keeps fun b o e => (e0.bs b o e).1
  have hkind : ∀ y ∈ ps.zip us, scope.names.lookup y.1 = some .local ∨ (scope.names.lookup y.1 = some .cell ∧ ((cellsFrom (s.heap.objs.size + 1) scope.names []).lookup y.1).isSome = true) := fun ⟨n, v⟩ hy => by
    rcases S.par n (List.of_mem_zip hy).1 with q | q
    · exact .inl q
    · exact .inr ⟨q, PySem.W.cellsFrom_some _ _ _ (.inl q)⟩
  refine codeAny_call_function hr.depth (KX _ _ lk) rfl S.co S.gen rfl (PySem.W.codeRec_of KX hcd) (hb _ _ _ _ ?_)
  refine wpAny_newFunctionEnv_cells S.kind hkind fun env he s1 x => ?_
  subst he
  refine ⟨lim.keeps x.toInCall.keep, codeAny_func ?_⟩
  obtain ⟨t, ht, hq⟩ := hbody A outer s H vs Q E (hr.deeper _) hsp
  have I : Inv (cxOf CX P w K mg base N qual scope f cdv A outer s H E) [] (start N vs) H s1 := inv_start S hr.hd e0 hl r x
  refine wpAny_mono (ht [] s1 (start N vs) H _ I hq) (fun fl s' hs => ?_) fun e s' hs => hs
  have fin : ∀ {σ' : St} {H' : Hp} {v : V} {u : Value}, Inv (cxOf CX P w K mg base N qual scope f cdv A outer s H E) [] σ' H' s' → RelV v u → Q v H' → CE outer P w H s Q u s' :=
    fun {σ' H' v u} J rv q => ⟨v, H', J.os, J.bare, J.base, J.hok, rv, q⟩
  cases fl with
  | ret u =>
    obtain ⟨v, σ', H', J, rv, q⟩ := hs
    exact fin J rv q
  | next =>
    obtain ⟨σ', H', J, q⟩ := hs
    exact fin (v := V.non) (u := Value.none) J rfl q
  | brk =>
    obtain ⟨_, _, _, q⟩ := hs
    exact False.elim q
  | cont =>
    obtain ⟨_, _, _, q⟩ := hs
    exact False.elim q
end L2

namespace L2
open PySem PySem.Spec PyProof.Rows
section
variable {X : Cx} {x : Str} {p pos : Pos} {e : Expr} {es : List Expr} {t : TA} {id T : String} {r : List V → Hp → VK → Prop}

def tCB (r : List V → Hp → VK → Prop) (t : TA) : TE := fun σ H Q => t σ H fun vs H1 => r vs H1 Q
theorem pe_callB (hc : CallR X (.builtin id) r) (hg : Gl X x) (hm : X.mg x = none) (hv : bootBuiltins x = some (.builtin id)) (ha : PA X (e :: es) t) (hn : x ≠ "__name__" := by decide) (hdb : (x == ("__debug__" : Str)) = false := by decide)
    (he : starEach (e :: es) X.env = (false, eval e X.env) :: starEach es X.env := by rfl) (hpl : (backTo pos (starEach es X.env)).any (·.1) = false := by rfl) : PE X (.Call (.Name x p) (e :: es) [] pos) (tCB r t) := by
  intro pins s σ H Q I h
  refine wpAny_Call_Name_kw (ld_blt I hg hm hv ?_ hn hdb)
  exact PyProof.Rows.callWith_builtin1 (thn (ha pos pins s σ H _ I h) fun us s1 ⟨vs, H1, I1, r1, q1⟩ => hc pins s1 σ H1 vs us Q I1 r1 q1) he hpl
theorem pe_callTy (hc : CallR X (.type T) r) (hg : Gl X x) (hm : X.mg x = none) (hv : bootBuiltins x = some (.type T)) (ha : PA X (e :: es) t) (hn : x ≠ "__name__" := by decide) (hdb : (x == ("__debug__" : Str)) = false := by decide)
    (he : starEach (e :: es) X.env = (false, eval e X.env) :: starEach es X.env := by rfl) (hpl : (backTo pos (starEach es X.env)).any (·.1) = false := by rfl) : PE X (.Call (.Name x p) (e :: es) [] pos) (tCB r t) := by
  intro pins s σ H Q I h
  refine wpAny_Call_Name_kw (ld_blt I hg hm hv ?_ hn hdb)
  exact PyProof.Rows.callWith_type1 (thn (ha pos pins s σ H _ I h) fun us s1 ⟨vs, H1, I1, r1, q1⟩ => hc pins s1 σ H1 vs us Q I1 r1 q1) he hpl
end
end L2

namespace HT
open PySem PyProof.Rows

section
open PySem.SeqAt
open PySem.AutoSeq1 (wpAny_loadPart')
open PySem.MeetsSeq PySem.MeetsSeq2 PySem.MeetsSeq3

end

section
variable {prog : Program} {w : World} {A : Around} {E : Value → Shared → Prop} {s : Shared}

def sIx (n d : Nat) : Option Int → Nat
  | none => d
  | some v => if v < 0 then (v + (n : Int)).toNat else min v.toNat n
theorem sIx_le (n d : Nat) (hd : d ≤ n) (o : Option Int) : sIx n d o ≤ n := by
  cases o with
  | none => exact hd
  | some v =>
    show (if v < 0 then (v + (n : Int)).toNat else min v.toNat n) ≤ n
    by_cases hv : v < 0
    · rw [if_pos hv]; omega
    · rw [if_neg hv]; exact Nat.min_le_right _ _
theorem clip_eq (v : Int) (n d : Nat) : (if v < 0 then max (v + (n : Int)) 0 else min v (n : Int)) = ((sIx n d (some v) : Nat) : Int) := by
  show (if v < 0 then max (v + (n : Int)) 0 else min v (n : Int)) = (((if v < 0 then (v + (n : Int)).toNat else min v.toNat n) : Nat) : Int)
  by_cases hv : v < 0
  · simp only [if_pos hv]; omega
  · simp only [if_neg hv]; omega
theorem adjust_gen (lo hi : Option Int) (n : Nat) : Builtin.Slice.sliceAdjust lo hi 1 (n : Int) = (((sIx n 0 lo : Nat) : Int), ((sIx n n hi : Nat) : Int)) := by
  have h1 : ¬ ((1 : Int) < 0) := by omega
  unfold Builtin.Slice.sliceAdjust
  simp only [h1, if_false]
  refine Prod.ext ?_ ?_
  · cases lo with
    | none => rfl
    | some v => exact clip_eq v n 0
  · cases hi with
    | none => rfl
    | some v => exact clip_eq v n n
theorem places_gen (i j : Nat) : Builtin.Slice.slicePlaces (i : Int) (j : Int) 1 = j - i := by
  unfold Builtin.Slice.slicePlaces
  have h1 : (1 : Int) > 0 := by omega
  simp only [h1, if_true, Int.ediv_one]
  split <;> omega
theorem slicePart_ {v : Value} {o : Option Int} {Q : Option Int → Shared → Prop} (p : IsPart v o) (h : Q o s) : wpAny (model prog w) A (Builtin.Slice.slicePartIndex v) Q E s := by
  cases p with
  | none => exact slicePart_none h
  | int i t => exact slicePart_int h
theorem sliceApplied_gen {sl : Addr} {vl vu : Value} {lo hi : Option Int} {n : Nat} {Q : Int × Int × Nat → Shared → Prop} (hs : s.heap.IsSliceOf sl vl vu .none) (pl : IsPart vl lo) (pu : IsPart vu hi)
    (h : Q (((sIx n 0 lo : Nat) : Int), 1, sIx n n hi - sIx n 0 lo) s) : wpAny (model prog w) A (Builtin.Slice.sliceApplied (.ref sl) (pure (n : Int))) Q E s := by
  obtain ⟨os, hos, hcs, hds⟩ := id hs
  unfold Builtin.Slice.sliceApplied Builtin.Slice.sliceFields
  refine wpAny_bind (wpAny_bind (wpAny_field hos hds (x := vl) rfl (wpAny_bind (wpAny_field hos hds (x := vu) rfl (wpAny_bind (wpAny_field hos hds (x := .none) rfl (wpAny_pure ?_)))))))
  refine wpAny_bind (slicePart_none ?_)
  show wpAny _ _ (if ((1 : Int) == 0) = true then _ else _) _ _ s
  rw [if_neg (by decide)]
  refine wpAny_bind (slicePart_ pl (wpAny_bind (slicePart_ pu (wpAny_bind (wpAny_pure ?_)))))
  show wpAny _ _ (match Builtin.Slice.sliceAdjust lo hi 1 (n : Int) with | (lo, hi) => pure (lo, (1 : Int), Builtin.Slice.slicePlaces lo hi 1)) _ _ s
  rw [adjust_gen lo hi n]
  show wpAny _ _ (pure (((sIx n 0 lo : Nat) : Int), (1 : Int), Builtin.Slice.slicePlaces ((sIx n 0 lo : Nat) : Int) ((sIx n n hi : Nat) : Int) 1)) _ _ s
  rw [places_gen]
  exact wpAny_pure h
theorem pick_gen (xs : Array Value) (i k : Nat) : ((List.range k).filterMap fun (m : Nat) => xs[((i : Int) + (m : Int) * 1).toNat]?).toArray = ((xs.toList.drop i).take k).toArray := by
  have e : (fun (m : Nat) => xs[((i : Int) + (m : Int) * 1).toNat]?) = fun m => xs[i + m]? := by
    funext m
    have : ((i : Int) + (m : Int) * 1).toNat = i + m := by omega
    rw [this]
  rw [e]
  have := pick_run xs i k
  rw [List.filterMap_map] at this
  have e2 : ((fun x => xs[x]?) ∘ fun x => i + x) = fun m => xs[i + m]? := rfl
  rw [e2] at this
  rw [this]

theorem getItem_tuple_cut {t sl : Addr} {items : Array Value} {vl vu : Value} {lo hi : Option Int} {Q : Value → Shared → Prop} (ht : IsTup s.heap t items) (hs : s.heap.IsSliceOf sl vl vu .none) (pl : IsPart vl lo) (pu : IsPart vu hi)
    (hw : ¬ (sIx items.size 0 lo = 0 ∧ sIx items.size items.size hi = items.size))
    (h : Q (.ref s.heap.objs.size) { s with heap := s.heap.push { cls := .type "tuple", data := .seq ((items.toList.drop (sIx items.size 0 lo)).take (sIx items.size items.size hi - sIx items.size 0 lo)).toArray } })
    (hsz : items.size ≤ sizeLine) : wpAny (model prog w) A (getItem (.ref t) (.ref sl)) Q E s := by
  have htake : sizeOk (.seq ((items.toList.drop (sIx items.size 0 lo)).take (sIx items.size items.size hi - sIx items.size 0 lo)).toArray) := by
    show ((items.toList.drop (sIx items.size 0 lo)).take (sIx items.size items.size hi - sIx items.size 0 lo)).toArray.size ≤ sizeLine
    rw [List.size_toArray, List.length_take, List.length_drop, Array.length_toList]
    omega
  have hj : sIx items.size items.size hi ≤ items.size := sIx_le _ _ (Nat.le_refl _) hi
  obtain ⟨os, hos, hcs, hds⟩ := id hs
  have hTs : s.TypeIs (.ref sl) "slice" := ⟨os, hos, hcs⟩
  unfold getItem
  try with_reducible refine wpAny_holding ?_
  first | refine wpAny_bind (wpAny_pure ?_) | skip
  refine wpAny_bind (wpAny_sequenceKey ht.typeIs (by decide) ?_)
  refine wpAny_bind (wpAny_callSpecial?_slot (name := Str.ofString "__getitem__") ht.typeIs PyProof.Rows.slot_tuple_getitem
    (wpAny_call_entry PyProof.Rows.slot_tuple_getitem ht.typeIs entry_tuple_getitem ?_ (args_tuple_getitem _ _)))
  show wpAny _ _ (Builtin.Tuple.tupleItemsOf (.ref t) >>= _) _ _ s
  refine wpAny_bind (tupleItemsOf_ ht ?_)
  refine wpAny_bind (wpAny_typeOf hTs ?_)
  rw [if_pos (by decide)]
  refine wpAny_bind (sliceApplied_gen hs pl pu ?_)
  have hno : ¬ ((((sIx items.size 0 lo : Nat) : Int) == 0 && (1 : Int) == 1 && (sIx items.size items.size hi - sIx items.size 0 lo) == items.size) = true) := by
    intro q
    rw [Bool.and_eq_true, Bool.and_eq_true] at q
    have q1 : ((sIx items.size 0 lo : Nat) : Int) = 0 := eq_of_beq q.1.1
    have q2 : sIx items.size items.size hi - sIx items.size 0 lo = items.size := eq_of_beq q.2
    exact hw ⟨by omega, by omega⟩
  show wpAny _ _ (if (((sIx items.size 0 lo : Nat) : Int) == 0 && (1 : Int) == 1 && (sIx items.size items.size hi - sIx items.size 0 lo) == items.size) = true then _ else _) _ _ s
  rw [if_neg hno, pick_gen]
  first
    | exact wpAny_bind (m := Builtin.Tuple.tupleExact _) (wpAny_newObj_type (wpAny_pure ⟨_, rfl, wpAny_pure h⟩) htake)
    | exact wpAny_bind (m := Builtin.Tuple.tupleExact _) (wpAny_newObj_type (wpAny_bind (wpAny_pure (wpAny_pure ⟨_, rfl, wpAny_pure h⟩))) htake)
    | exact wpAny_bind (wpAny_bind (m := Builtin.Tuple.tupleExact _) (wpAny_newObj_type (wpAny_pure (wpAny_pure ⟨_, rfl, wpAny_pure h⟩)) htake))
    | exact wpAny_bind (wpAny_bind (m := Builtin.Tuple.tupleExact _) (wpAny_newObj_type (wpAny_pure ⟨_, rfl, wpAny_pure h⟩) htake))
end
end HT

namespace L2
open PySem PySem.Spec PyProof.Rows

abbrev TO := St → Hp → (Option Int → Hp → Prop) → Prop
def PO (X : Cx) (e : Option Expr) (t : TO) : Prop :=
  ∀ (pins : List (Addr × Obj)) (s : Shared) (σ : St) (H : Hp) (Q : Option Int → Hp → Prop), Inv X pins σ H s → t σ H Q →
    wpAny (model X.prog X.w) X.A (evalPart e X.env) (fun u s' => ∃ o H', Inv X pins σ H' s' ∧ IsPart u o ∧ Q o H') X.xe s
def tNoPart : TO := fun _ H Q => Q none H
def tPart (t : TE) : TO := fun σ H Q => t σ H fun x H1 => ∃ i, x = .int i ∧ Q (some i) H1

theorem intsAre_of {ns : List Int} : ∀ {us : List Value}, Vals (ns.map V.int) us → IntsAre us ns := by
  induction ns with
  | nil => intro us r; rw [List.map_nil] at r; cases r; exact .nil
  | cons n ns ih =>
    intro us r
    rw [List.map_cons] at r
    cases r with
    | cons r1 r2 =>
      obtain ⟨t, e⟩ := r1
      subst e
      exact .cons n t (ih r2)

section
variable {X : Cx} {e : Expr} {te : TE} {lo hi : Option Expr} {tl th : TO} {pos p2 : Pos}

theorem po_none : PO X none tNoPart := by
  intro pins s σ H Q I h
  rw [evalPart_none]
  exact wpAny_pure ⟨none, H, I, .none, h⟩
theorem po_some (h : PE X e te) : PO X (some e) (tPart te) := by
  intro pins s σ H Q I hw
  rw [evalPart_some]
  refine thn (h pins s σ H _ I hw) fun u s1 ⟨x, H1, I1, r1, q1⟩ => ?_
  obtain ⟨i, rfl, q⟩ := q1
  obtain ⟨t, rfl⟩ := r1
  exact ⟨some i, H1, I1, .int i t, q⟩

def SlR (X : Cx) (r : V → Option Int → Option Int → Hp → VK → Prop) : Prop :=
  ∀ (pins : List (Addr × Obj)) (s : Shared) (σ : St) (H : Hp) (x : V) (v vl vu : Value) (lo hi : Option Int) (sl : Addr) (Q : VK), Inv X pins σ H s → RelV x v → s.heap.IsSliceOf sl vl vu .none → IsPart vl lo → IsPart vu hi → r x lo hi H Q →
    ∃ T id, typeLookup (.type T) "__getitem__" = pure (some (.builtin id)) ∧ s.TypeIs v T ∧ wpAny (model X.prog X.w) X.A (getItem v (.ref sl)) (EP X pins σ Q) X.xe s
theorem SlR.or {r r' : V → Option Int → Option Int → Hp → VK → Prop} (h : SlR X r) (h' : SlR X r') : SlR X (fun x lo hi H Q => r x lo hi H Q ∨ r' x lo hi H Q) := by
  intro pins s σ H x v vl vu lo hi sl Q I rx hs pl pu q
  rcases q with q | q
  · exact h pins s σ H x v vl vu lo hi sl Q I rx hs pl pu q
  · exact h' pins s σ H x v vl vu lo hi sl Q I rx hs pl pu q
def tSl (r : V → Option Int → Option Int → Hp → VK → Prop) (te : TE) (tl th : TO) : TE := fun σ H Q => te σ H fun x H1 => tl σ H1 fun l H2 => th σ H2 fun u H3 => r x l u H3 Q
theorem pe_slice {r : V → Option Int → Option Int → Hp → VK → Prop} (hr : SlR X r) (he : PE X e te) (hl : PO X lo tl) (hu : PO X hi th) : PE X (.Subscript e (.Slice lo hi none p2) pos) (tSl r te tl th) := by
  intro pins s σ H Q I h
  refine Subscript_ (thn (he pins s σ H _ I h) fun v s1 ⟨x, H1, I1, r1, q1⟩ => ?_)
  refine wpAny_Slice (thn (hl pins s1 σ H1 _ I1 q1) fun vl s2 ⟨l, H2, I2, pl, q2⟩ => thn (hu pins s2 σ H2 _ I2 q2) fun vu s3 ⟨u, H3, I3, pu, q3⟩ => ?_)
  rw [evalPart_none]
  refine wpAny_pure ?_
  have I4 : Inv X pins σ H3 { s3 with heap := s3.heap.push { cls := .type "slice", data := .fields #[vl, vu, .none] } } := I3.kept (t' := s3.toks) fun b ob q => Heap.get?_push_of_some _ q
  obtain ⟨T, id, hT, ht, hg⟩ := hr pins { s3 with heap := s3.heap.push { cls := .type "slice", data := .fields #[vl, vu, .none] } } σ H3 x v vl vu l u s3.heap.objs.size Q I4 r1 (Heap.IsSliceOf.new ..) pl pu q3
  show wpAny (model X.prog X.w) X.A (subscriptTail e (.Slice lo hi none p2) v (.ref s3.heap.objs.size)) (EP X pins σ Q) X.xe { s3 with heap := s3.heap.push { cls := .type "slice", data := .fields #[vl, vu, .none] } }
  exact tail_any (ops := [.ref s3.heap.objs.size, v]) ht hT hg (by with_unfolding_all rfl)

def cutV (xs : List V) (lo hi : Option Int) : List V := (xs.drop (HT.sIx xs.length 0 lo)).take (HT.sIx xs.length xs.length hi - HT.sIx xs.length 0 lo)
theorem cutV_length (xs : List V) (lo hi : Option Int) : (cutV xs lo hi).length ≤ xs.length := by
  unfold cutV
  rw [List.length_take, List.length_drop]
  omega
def rSlT (K : PySem.W.Frag) : V → Option Int → Option Int → Hp → VK → Prop := fun x lo hi H Q => ∃ a xs, x = .ref a ∧ SqT K H a xs ∧
  ¬ (HT.sIx xs.length 0 lo = 0 ∧ HT.sIx xs.length xs.length hi = xs.length) ∧ ∀ p, H p = none → Q (.ref p) (upd H p (.tup (cutV xs lo hi)))
theorem sl_tup : SlR X (rSlT X.K) := by
  intro pins s σ H x v vl vu lo hi sl Q I rx hs pl pu h
  obtain ⟨a, xs, rfl, hx, hw, q⟩ := h
  cases rx
  obtain ⟨its, r, ht, hz⟩ := I.tuple hx
  have hlen : its.toArray.size = xs.length := by rw [List.size_toArray]; exact r.length.symm
  refine ⟨"tuple", _, PyProof.Rows.slot_tuple_getitem.lookup, ht.typeIs, ?_⟩
  refine HT.getItem_tuple_cut ht hs pl pu (by rw [hlen]; exact hw) ?_ (by rw [hlen]; exact hz)
  rw [hlen]
  refine ⟨.ref s.heap.objs.size, _, I.laid (t' := s.toks) (o := .tup (cutV xs lo hi)) (fun b ob q => Heap.get?_push_of_some _ q) (Nat.le_refl _) ?_, rfl, q _ (I.hok.fresh (Nat.le_refl _))⟩
  exact ⟨Nat.le_trans (cutV_length xs lo hi) hz, _, (r.drop (HT.sIx xs.length 0 lo)).take (HT.sIx xs.length xs.length hi - HT.sIx xs.length 0 lo), IsTup.new _ _⟩

end
end L2

namespace L2
open PySem PySem.Spec PyProof.Rows

def ixN (n : Nat) (i : Int) : Option Nat := if 0 ≤ i then (if i < n then some i.toNat else none) else if -(n : Int) ≤ i then some (i + n).toNat else none
def atI {α : Type} (xs : List α) (i : Int) : Option α := (ixN xs.length i).bind fun j => xs[j]?
theorem ixN_seq {n : Nat} {i : Int} {j : Nat} (h : ixN n i = some j) : seqIndex? i n = some j ∧ j < n ∧ -(n : Int) ≤ i ∧ i < n := by
  unfold ixN at h
  by_cases h0 : 0 ≤ i
  · rw [if_pos h0] at h
    by_cases h1 : i < n
    · rw [if_pos h1] at h
      have e : i.toNat = j := Option.some.inj h
      exact ⟨by rw [seqIndex_of h0 h1, e], by omega, by omega, h1⟩
    · rw [if_neg h1] at h; cases h
  · rw [if_neg h0] at h
    by_cases h1 : -(n : Int) ≤ i
    · rw [if_pos h1] at h
      have e : (i + n).toNat = j := Option.some.inj h
      exact ⟨by rw [seqIndex_neg (by omega) h1, e], by omega, h1, by omega⟩
    · rw [if_neg h1] at h; cases h
theorem atI_get {α : Type} {xs : List α} {i : Int} {v : α} (h : atI xs i = some v) : ∃ j, seqIndex? i xs.length = some j ∧ xs[j]? = some v ∧ j < xs.length ∧ -(xs.length : Int) ≤ i ∧ i < xs.length := by
  unfold atI at h
  cases e : ixN xs.length i with
  | none => rw [e] at h; cases h
  | some j =>
    rw [e] at h
    obtain ⟨h1, h2, h3, h4⟩ := ixN_seq e
    exact ⟨j, h1, h, h2, h3, h4⟩
theorem atI_nat {α : Type} {xs : List α} {j : Nat} {v : α} (h : xs[j]? = some v) : atI xs (j : Int) = some v := by
  have hj : j < xs.length := (List.getElem?_eq_some_iff.mp h).1
  have e : ixN xs.length (j : Int) = some j := by
    unfold ixN
    rw [if_pos (by omega), if_pos (by omega)]; simp
  unfold atI; rw [e]; exact h
def PlainIx (b : Expr) : Prop := ∀ o i, subscripted b false o i = operate [o, i] (getItem o i)
def IxR (X : Cx) (r : R2) : Prop :=
  ∀ (value slice : Expr) (pins : List (Addr × Obj)) (s : Shared) (σ : St) (H : Hp) (x y : V) (v u : Value) (Q : VK), Inv X pins σ H s → RelV x v → RelV y u → r x y H Q →
    subscripted slice false v u = operate [v, u] (getItem v u) → wpAny (model X.prog X.w) X.A (subscriptTail value slice v u) (EP X pins σ Q) X.xe s
def MtR (X : Cx) (id : String) (r : V → List V → Hp → VK → Prop) : Prop :=
  ∀ (pins : List (Addr × Obj)) (s : Shared) (σ : St) (H : Hp) (x : V) (xs : List V) (v : Value) (us : List Value) (Q : VK), Inv X pins σ H s → RelV x v → Vals xs us → r x xs H Q →
    wpAny (model X.prog X.w) X.A (call (.builtin id) (v :: us)) (EP X pins σ Q) X.xe s
section
variable {X : Cx} {a b : Expr} {ta tb : TE} {pos : Pos}
theorem IxR.or {r r' : R2} (h : IxR X r) (h' : IxR X r') : IxR X (fun x y H Q => r x y H Q ∨ r' x y H Q) := by
  intro value slice pins s σ H x y v u Q I rx ry q hs
  rcases q with q | q
  · exact h value slice pins s σ H x y v u Q I rx ry q hs
  · exact h' value slice pins s σ H x y v u Q I rx ry q hs
theorem MtR.or {id : String} {r r' : V → List V → Hp → VK → Prop} (h : MtR X id r) (h' : MtR X id r') : MtR X id (fun x xs H Q => r x xs H Q ∨ r' x xs H Q) := by
  intro pins s σ H x xs v us Q I rx rs q
  rcases q with q | q
  · exact h pins s σ H x xs v us Q I rx rs q
  · exact h' pins s σ H x xs v us Q I rx rs q
theorem pe_ix {r : R2} (hr : IxR X r) (ha : PE X a ta) (hb : PE X b tb) (hs : PlainIx b) : PE X (.Subscript a b pos) (tOp r ta tb) := by
  intro pins s σ H Q I h
  exact Subscript_ (binT ha hb I h fun v u s2 x y H2 I2 rx ry q => hr a b pins s2 σ H2 x y v u Q I2 rx ry q (hs _ _))

def rIxL (K : PySem.W.Frag) : R2 := fun x y H Q => ∃ p xs i v, x = .ref p ∧ y = .int i ∧ SqL K H p xs ∧ atI xs i = some v ∧ Q v H
def rIxT (K : PySem.W.Frag) : R2 := fun x y H Q => ∃ p xs i v, x = .ref p ∧ y = .int i ∧ SqT K H p xs ∧ atI xs i = some v ∧ Q v H
def rIxS : R2 := fun x y H Q => ∃ z i c, x = .str z ∧ y = .int i ∧ z.length ≤ sizeLine ∧ atI z.cps.toList i = some c ∧ Q (.str ⟨#[c]⟩) H
theorem ix_list : IxR X (rIxL X.K) := by
  intro value slice pins s σ H x y v u Q I rx ry h hs
  obtain ⟨p, xs, i, z, rfl, rfl, hq, he, q⟩ := h
  cases rx
  obtain ⟨t, rfl⟩ := ry
  obtain ⟨its, r, pl, hz⟩ := I.list hq
  obtain ⟨j, h1, h2, h3, h4, h5⟩ := atI_get he
  obtain ⟨w, ew, rw'⟩ := r.get h2
  have hl := r.length
  have hn := line63
  have fin : EP X pins σ Q w s := ⟨z, H, I, rw', q⟩
  by_cases h0 : 0 ≤ i
  · have hj : i.toNat = j := by
      rw [seqIndex_of h0 h5] at h1
      exact Option.some.inj h1
    exact item_listR pl.isList h0 (by omega) (by rw [hj]; simpa using ew) fin hs
  · have hj : (i + (its.toArray.size : Int)).toNat = j := by
      rw [seqIndex_neg (by omega) h4] at h1
      rw [List.size_toArray, ← hl]
      exact Option.some.inj h1
    exact subscriptTail_builtinR (x := w) pl.isList.typeIs slot_list_getitem.lookup
      (wpAny_getItem_list_neg (Q := fun r s' => r = w ∧ EP X pins σ Q r s') pl.isList (by omega) (by rw [List.size_toArray] <;> omega) (by omega) (by rw [hj]; simpa using ew) ⟨rfl, fin⟩) hs
theorem ix_tup : IxR X (rIxT X.K) := by
  intro value slice pins s σ H x y v u Q I rx ry h hs
  obtain ⟨p, xs, i, z, rfl, rfl, hq, he, q⟩ := h
  cases rx
  obtain ⟨t, rfl⟩ := ry
  obtain ⟨its, r, pl, hz⟩ := I.tuple hq
  obtain ⟨j, h1, h2, h3, h4, h5⟩ := atI_get he
  obtain ⟨w, ew, rw'⟩ := r.get h2
  have hl := r.length
  have hn := line63
  have fin : EP X pins σ Q w s := ⟨z, H, I, rw', q⟩
  exact subscriptTail_builtinR (x := w) pl.typeIs slot_tuple_getitem.lookup
    (getItem_tuple (j := j) (Q := fun r s' => r = w ∧ EP X pins σ Q r s') pl (by omega) (by omega) (by rw [List.size_toArray, ← hl]; exact h1) (by simpa using ew) ⟨rfl, fin⟩) hs
theorem ix_str : IxR X rIxS := by
  intro value slice pins s σ H x y v u Q I rx ry h hs
  obtain ⟨z, i, c, rfl, rfl, hz, he, q⟩ := h
  obtain ⟨t, rfl⟩ := rx
  obtain ⟨t', rfl⟩ := ry
  obtain ⟨j, h1, h2, h3, h4, h5⟩ := atI_get he
  have hl : z.cps.toList.length = z.length := by simp [Str.length]
  rw [hl] at h1 h4 h5
  have hn := line63
  exact tail_any (typeIs_str s z t) slot_str_getitem.lookup (getItem_str (c := c) (by
    have e1 : decide (i < -(2 ^ 63 : Int)) = false := decide_eq_false (by omega)
    have e2 : decide (i ≥ 2 ^ 63) = false := decide_eq_false (by omega)
    rw [e1, e2, Bool.or_false]) (by rw [h1]; simpa using h2) ⟨.str ⟨#[c]⟩, H, I.tok _, ⟨_, rfl⟩, q⟩) hs
def rIx (K : PySem.W.Frag) : R2 := fun x y H Q => rIxL K x y H Q ∨ rIxT K x y H Q ∨ rIxS x y H Q
theorem ix_seq : IxR X (rIx X.K) := ix_list.or (ix_tup.or ix_str)

theorem mapSeq_set (its : List Value) (n j : Nat) (u : Value) : Obj.mapSeq (·.setIfInBounds j u) { cls := .type "list", data := .seq its.toArray n } = { cls := .type "list", data := .seq (its.set j u).toArray n } := by
  simp [Obj.mapSeq]
theorem Inv.lst {pins : List (Addr × Obj)} {σ : St} {H : Hp} {s : Shared} {p : Addr} {xs : List V} (I : Inv X pins σ H s) (h : H p = some (.lst xs)) :
    ∃ (its : List Value) (n : Nat), Vals xs its ∧ s.heap.get? p = some { cls := .type "list", data := .seq its.toArray n } ∧ xs.length ≤ sizeLine := by
  obtain ⟨z, its, n, r, e⟩ := I.hok p _ h
  exact ⟨its, n, r, e, z⟩
theorem Inv.lstUpd {pins : List (Addr × Obj)} {σ : St} {H : Hp} {s : Shared} {p : Addr} {xs ys : List V} {its its' : List Value} {n n' : Nat} {f : Obj → Obj} (I : Inv X pins σ H s) (h : H p = some (.lst xs))
    (ho : s.heap.get? p = some { cls := .type "list", data := .seq its.toArray n }) (hf : f { cls := .type "list", data := .seq its.toArray n } = { cls := .type "list", data := .seq its'.toArray n' }) (r : Vals ys its') (hz : ys.length ≤ sizeLine) (t : Nat) :
    Inv X pins σ (upd H p (.lst ys)) { s with heap := s.heap.update p f, toks := t } := by
  have e : (s.heap.update p f).get? p = some { cls := .type "list", data := .seq its'.toArray n' } := by
    rw [Heap.get?_update_self f ho (by rw [hf] <;> rfl), hf]
  refine I.write (x := p) (e := p) (by rw [h]; trivial) (.inl rfl) (fun b u hb q => (Heap.get?_update_other _ _ (Ne.symm hb)).trans q) ⟨_, e⟩ ?_
  exact ⟨hz, its', n', r, e⟩
def rSetL : V → V → V → Hp → (Hp → Prop) → Prop := fun o i v H Q => ∃ p xs k j, o = .ref p ∧ i = .int k ∧ H p = some (.lst xs) ∧ ixN xs.length k = some j ∧ Q (upd H p (.lst (xs.set j v)))
theorem set_list : PSet X rSetL := by
  intro pins s σ H o i v ov iv u Q I ro ri rv h
  obtain ⟨p, xs, k, j, rfl, rfl, hp, hj, q⟩ := h
  cases ro
  obtain ⟨t, rfl⟩ := ri
  obtain ⟨its, n, r, ho, hz⟩ := I.lst hp
  obtain ⟨h1, h2, h3, h4⟩ := ixN_seq hj
  have hl := r.length
  have hn := line63
  have I' : Inv X pins σ (upd H p (.lst (xs.set j v))) { s with heap := s.heap.update p (Obj.mapSeq (·.setIfInBounds j u)) } :=
    I.lstUpd hp ho (mapSeq_set its n j u) (r.set rv j) (by rw [List.length_set]; exact hz) s.toks
  by_cases h0 : 0 ≤ k
  · have hk : k.toNat = j := by
      rw [seqIndex_of h0 h4] at h1
      exact Option.some.inj h1
    exact PySem.W.ki_setAt ho h0 (by omega) (by rw [List.size_toArray, ← hl]; exact h4) (by rw [hk]; exact ⟨_, I', q⟩)
  · have hk : (k + (its.toArray.size : Int)).toNat = j := by
      rw [seqIndex_neg (by omega) h3] at h1
      rw [List.size_toArray, ← hl]
      exact Option.some.inj h1
    exact PySem.W.ki_setBack ho (by omega) (by rw [List.size_toArray, ← hl]; exact h3) (by omega) (by rw [hk]; exact ⟨_, I', q⟩)

theorem slice_bounds (lo hi : Option Int) (n : Nat) : (sliceBounds lo hi none n).1 = ((HT.sIx n 0 lo : Nat) : Int) ∧ (sliceBounds lo hi none n).2.1 = ((HT.sIx n n hi : Nat) : Int) ∧ (sliceBounds lo hi none n).2.2 = 1 := by
  refine ⟨?_, ?_, rfl⟩
  · cases lo with
    | none => simp [sliceBounds, HT.sIx]
    | some i =>
      simp only [sliceBounds, HT.sIx, Option.getD_none, show (1 : Int) > 0 by decide, if_true]
      by_cases h : i < 0
      · simp only [h, if_true] <;> omega
      · simp only [h, if_false] <;> omega
  · cases hi with
    | none => simp [sliceBounds, HT.sIx]
    | some i =>
      simp only [sliceBounds, HT.sIx, Option.getD_none, show (1 : Int) > 0 by decide, if_true]
      by_cases h : i < 0
      · simp only [h, if_true] <;> omega
      · simp only [h, if_false] <;> omega
theorem slicePick_cut (its : List Value) (lo hi : Option Int) : slicePick its.toArray lo hi none = ((its.drop (HT.sIx its.length 0 lo)).take (HT.sIx its.length its.length hi - HT.sIx its.length 0 lo)).toArray := by
  obtain ⟨h1, h2, h3⟩ := slice_bounds lo hi its.toArray.size
  unfold slicePick
  rw [h1, h2, h3]
  simp only [sliceRange_one, pick_run, List.size_toArray] <;> rfl
def rSlL (K : PySem.W.Frag) : V → Option Int → Option Int → Hp → VK → Prop := fun x lo hi H Q => ∃ a xs, x = .ref a ∧ SqL K H a xs ∧ ∀ p, H p = none → Q (.ref p) (upd H p (.lst (cutV xs lo hi)))
theorem sl_list : SlR X (rSlL X.K) := by
  intro pins s σ H x v vl vu lo hi sl Q I rx hs pl pu h
  obtain ⟨a, xs, rfl, hx, q⟩ := h
  cases rx
  obtain ⟨its, r, ht, hz⟩ := I.list hx
  have hlen := r.length
  refine ⟨"list", _, slot_list_getitem.lookup, ht.isList.typeIs, ?_⟩
  refine wpAny_getItem_list_slice ht.isList hs pl pu .none (by simp) ?_ (by rw [List.size_toArray] <;> omega)
  rw [slicePick_cut, ← hlen]
  refine ⟨.ref s.heap.objs.size, _, I.laid (t' := s.toks) (o := .lst (cutV xs lo hi)) (fun b ob q => Heap.get?_push_of_some _ q) (Nat.le_refl _) ?_, rfl, q _ (I.hok.fresh (Nat.le_refl _))⟩
  exact ⟨Nat.le_trans (cutV_length xs lo hi) hz, _, 0, (r.drop (HT.sIx xs.length 0 lo)).take (HT.sIx xs.length xs.length hi - HT.sIx xs.length 0 lo), Heap.get?_push_size _ rfl⟩

def flatV : V → Bool
  | .non => true
  | .bl _ => true
  | .int _ => true
  | .str _ => true
  | _ => false
def eqV : V → V → Bool
  | .non, .non => true
  | .bl a, .bl b => a == b
  | .bl a, .int b => (if a then 1 else 0) == b
  | .int a, .bl b => a == (if b then 1 else 0)
  | .int a, .int b => a == b
  | .str a, .str b => a == b
  | _, _ => false
theorem eqAt_V {A : Around} {s : Shared} {y x : V} {u v : Value} (ry : RelV y u) (rx : RelV x v) (fy : flatV y = true) (fx : flatV x = true) : SeqAt.EqAt A s u v (eqV y x) := by
  cases y with
  | non =>
    cases ry
    cases x with
    | non => cases rx; exact SeqAt.EqAt.same _
    | bl b => cases rx; exact SeqAt.EqAt.none_bool b
    | int b => obtain ⟨t, rfl⟩ := rx; exact SeqAt.EqAt.none_int b t
    | str b => obtain ⟨t, rfl⟩ := rx; exact SeqAt.EqAt.none_str b t
    | _ => exact absurd (show false = true from fx) Bool.false_ne_true
  | bl a =>
    cases ry
    cases x with
    | non => cases rx; exact SeqAt.EqAt.bool_none a
    | bl b => cases rx; exact SeqAt.EqAt.bool_bool a b
    | int b => obtain ⟨t, rfl⟩ := rx; exact SeqAt.EqAt.bool_int a b t
    | str b => obtain ⟨t, rfl⟩ := rx; exact SeqAt.EqAt.bool_str a b t
    | _ => exact absurd (show false = true from fx) Bool.false_ne_true
  | int a =>
    obtain ⟨t', rfl⟩ := ry
    cases x with
    | non => cases rx; exact SeqAt.EqAt.int_none a t'
    | bl b => cases rx; exact SeqAt.EqAt.int_bool a t' b
    | int b => obtain ⟨t, rfl⟩ := rx; exact SeqAt.EqAt.int_int a t' b t
    | str b => obtain ⟨t, rfl⟩ := rx; exact SeqAt.EqAt.int_str a t' b t
    | _ => exact absurd (show false = true from fx) Bool.false_ne_true
  | str a =>
    obtain ⟨t', rfl⟩ := ry
    cases x with
    | non => cases rx; exact SeqAt.EqAt.str_none a t'
    | bl b => cases rx; exact SeqAt.EqAt.str_bool a t' b
    | int b => obtain ⟨t, rfl⟩ := rx; exact SeqAt.EqAt.str_int a t' b t
    | str b => obtain ⟨t, rfl⟩ := rx; exact SeqAt.EqAt.str_str a t' b t
    | _ => exact absurd (show false = true from fx) Bool.false_ne_true
  | _ => exact absurd (show false = true from fy) Bool.false_ne_true
def eqU (x : V) (u : Value) : Bool := match u with
  | .none => eqV .non x
  | .bool b => eqV (.bl b) x
  | .int i _ => eqV (.int i) x
  | .str z _ => eqV (.str z) x
  | _ => false
theorem eqU_of {x y : V} {u : Value} (r : RelV y u) (f : flatV y = true) : eqU x u = eqV y x := by
  cases y with
  | non => cases r; rfl
  | bl b => cases r; rfl
  | int i => obtain ⟨t, rfl⟩ := r; rfl
  | str z => obtain ⟨t, rfl⟩ := r; rfl
  | _ => exact absurd (show false = true from f) Bool.false_ne_true
theorem any_eqU {x : V} : ∀ {xs : List V} {us : List Value}, Vals xs us → xs.all flatV = true → us.any (eqU x) = xs.any fun y => eqV y x
  | _, _, .nil, _ => rfl
  | y :: xs, u :: us, .cons r t, f => by
    rw [List.all_cons, Bool.and_eq_true] at f
    rw [List.any_cons, List.any_cons, eqU_of r f.1, any_eqU t f.2]
theorem mem_eqAt {A : Around} {s : Shared} {x : V} {v : Value} (rx : RelV x v) (fx : flatV x = true) : ∀ {xs : List V} {us : List Value}, Vals xs us → xs.all flatV = true → ∀ u ∈ us, SeqAt.EqAt A s u v (eqU x u)
  | _, _, .nil, _ => fun u hu => by cases hu
  | y :: xs, u :: us, .cons r t, f => fun u' hu => by
    rw [List.all_cons, Bool.and_eq_true] at f
    rcases List.mem_cons.mp hu with rfl | hu
    · rw [eqU_of r f.1]; exact eqAt_V r rx f.1 fx
    · exact mem_eqAt rx fx t f.2 u' hu
def inV (x : V) (xs : List V) : Bool := xs.any fun y => eqV y x
def rIn (K : PySem.W.Frag) (neg : Bool) : R2 := fun x y H Q => ∃ p xs, y = .ref p ∧ (SqL K H p xs ∨ SqT K H p xs) ∧ flatV x = true ∧ xs.all flatV = true ∧ Q (.bl (if neg then !inV x xs else inV x xs)) H
theorem op_in_seq : OpR X (compareOp .In) (rIn X.K false) := by
  intro pins s σ H x y v u Q I rx ry h
  obtain ⟨p, xs, rfl, hq, fx, fs, q⟩ := h
  cases ry
  rcases hq with hq | hq
  · obtain ⟨its, r, pl, hz⟩ := I.list hq
    refine SeqAt.in_listAt (eqU x) pl.isList (fun w hw => mem_eqAt rx fx r fs w (by simpa using hw)) ⟨.bl _, H, I, rfl, ?_⟩
    rw [show its.toArray.any (eqU x) = its.any (eqU x) by simp, any_eqU r fs]
    exact q
  · obtain ⟨its, r, pl, hz⟩ := I.tuple hq
    refine SeqAt.in_tupleAt (eqU x) pl (fun w hw => mem_eqAt rx fx r fs w (by simpa using hw)) ⟨.bl _, H, I, rfl, ?_⟩
    rw [show its.toArray.any (eqU x) = its.any (eqU x) by simp, any_eqU r fs]
    exact q
theorem call_len_seq : CallR X (.builtin "len") (fun xs H Q => ∃ p ys, xs = [.ref p] ∧ (SqL X.K H p ys ∨ SqT X.K H p ys) ∧ Q (.int ys.length) H) := by
  intro pins s σ H xs us Q I r h
  obtain ⟨p, ys, rfl, hq, q⟩ := h
  obtain ⟨u, rfl, rx⟩ := vals1 r
  cases rx
  have hn := line63
  rcases hq with hq | hq
  · obtain ⟨its, r', pl, hz⟩ := I.list hq
    have hlen := r'.length
    exact Calls.call_len_list pl.isList (by simp only [List.size_toArray] <;> omega) ⟨.int ys.length, H, I.tok _, ⟨s.toks + 1, by rw [List.size_toArray, hlen]⟩, q⟩
  · obtain ⟨its, r', pl, hz⟩ := I.tuple hq
    have hlen := r'.length
    exact len_tuple pl (by simp only [List.size_toArray] <;> omega) ⟨.int ys.length, H, I.tok _, ⟨s.toks + 1, by rw [List.size_toArray, hlen]⟩, q⟩
theorem CallR.or {f : Value} {r r' : List V → Hp → VK → Prop} (h : CallR X f r) (h' : CallR X f r') : CallR X f (fun xs H Q => r xs H Q ∨ r' xs H Q) := by
  intro pins s σ H xs us Q I rs q
  rcases q with q | q
  · exact h pins s σ H xs us Q I rs q
  · exact h' pins s σ H xs us Q I rs q
theorem call_list_of : CallR X (.type "list") (fun xs H Q => ∃ p ys, xs = [.ref p] ∧ (SqL X.K H p ys ∨ SqT X.K H p ys) ∧ ∀ l, H l = none → Q (.ref l) (upd H l (.lst ys))) := by
  intro pins s σ H xs us Q I r h
  obtain ⟨p, ys, rfl, hq, q⟩ := h
  obtain ⟨u, rfl, rx⟩ := vals1 r
  cases rx
  have fin : ∀ (its : List Value), Vals ys its → ys.length ≤ sizeLine → ∀ (h' : Heap) (c' : Nat), (∀ b o', s.heap.get? b = some o' → h'.get? b = some o') →
      h'.get? s.heap.objs.size = some { cls := .type "list", dict := none, data := .seq its.toArray c', slots := #[] } → EP X pins σ Q (.ref s.heap.objs.size) { s with heap := h' } := fun its r' hz h' c' kp e =>
    ⟨.ref s.heap.objs.size, _, I.laid (t' := s.toks) kp (Nat.le_refl _) (show ObjOk X.prog X.w _ h' _ (.lst ys) from ⟨hz, its, c', r', e⟩), rfl, q _ (I.hok.fresh (Nat.le_refl _))⟩
  rcases hq with hq | hq
  · obtain ⟨its, r', pl, hz⟩ := I.list hq
    have hlen := r'.length
    obtain ⟨o, ho, hc, n, hd⟩ := pl.isList
    exact call_list_seq p (.inl rfl) ho hc hd (fun h' c' kp e => fin its r' hz h' c' kp e) (by simp only [List.size_toArray] <;> omega)
  · obtain ⟨its, r', pl, hz⟩ := I.tuple hq
    have hlen := r'.length
    obtain ⟨o, ho, hc, n, hd⟩ := pl
    exact call_list_seq p (.inr rfl) ho hc hd (fun h' c' kp e => fin its r' hz h' c' kp e) (by simp only [List.size_toArray] <;> omega)
def tyV (K : PySem.W.Frag) (T : String) (x : V) (H : Hp) : Prop := match x with
  | .str _ => T = "str"
  | .int _ => T = "int"
  | .ref p => (T = "list" ∧ ∃ xs, SqL K H p xs) ∨ (T = "tuple" ∧ ∃ o, K.lookup p = some o ∧ o.cls = .type "tuple" ∧ o.dict = none) ∨
      (T = "dict" ∧ ((∃ kvs, H p = some (.dK kvs)) ∨ ∃ kvs, H p = some (.dT kvs))) ∨ (T = "set" ∧ ∃ S n, H p = some (.set S n))
  | _ => False
theorem tyV_is {pins : List (Addr × Obj)} {σ : St} {H : Hp} {s : Shared} {T : String} {x : V} {v : Value} (I : Inv X pins σ H s) (r : RelV x v) (ty : tyV X.K T x H) :
    s.TypeIs v T ∧ ∀ a, v = .ref a → ∃ ob, s.heap.get? a = some ob ∧ ob.dict = none := by
  cases x with
  | str z =>
    obtain ⟨t, rfl⟩ := r
    cases (show T = "str" from ty)
    exact ⟨typeIs_str s z t, fun _ e => nomatch e⟩
  | int i =>
    obtain ⟨t, rfl⟩ := r
    cases (show T = "int" from ty)
    exact ⟨typeIs_int s i t, fun _ e => nomatch e⟩
  | ref p =>
    cases r
    rcases ty with ⟨rfl, xs, hq⟩ | ⟨rfl, o, hk, hc, hd⟩ | ⟨rfl, hk⟩ | ⟨rfl, S, n, hk⟩
    · obtain ⟨its, _, pl, _⟩ := I.list hq
      refine ⟨pl.isList.typeIs, fun a e => ?_⟩
      cases e
      obtain ⟨o, n, e, c, hd, _⟩ := pl
      exact ⟨o, e, hd⟩
    · refine ⟨⟨o, I.kIn p o hk, hc⟩, fun a e => ?_⟩
      cases e
      exact ⟨o, I.kIn _ o hk, hd⟩
    · have z : ∃ o, s.heap.get? p = some o ∧ o.ExactDict := by
        rcases hk with ⟨kvs, hk⟩ | ⟨kvs, hk⟩
        · obtain ⟨_, _, _, _, o, _, _, e, ex, _⟩ := I.hok p _ hk
          exact ⟨o, e, ex⟩
        · obtain ⟨_, _, _, _, o, _, _, e, ex, _⟩ := I.hok p _ hk
          exact ⟨o, e, ex⟩
      obtain ⟨o, e, ex⟩ := z
      refine ⟨⟨o, e, ex.1⟩, fun a e2 => ?_⟩
      cases e2
      exact ⟨o, e, ex.2.1⟩
    · obtain ⟨o, _, _, _, e, ex, _⟩ := I.hok p _ hk
      refine ⟨⟨o, e, ex.1⟩, fun a e2 => ?_⟩
      cases e2
      exact ⟨o, e, ex.2.1⟩
  | _ => exact False.elim ty
def tBM (K : PySem.W.Frag) (T : String) (r : V → List V → Hp → VK → Prop) (to : TE) (t : TA) : TE := fun σ H Q => to σ H fun x H1 => tyV K T x H1 ∧ t σ H1 fun xs H2 => r x xs H2 Q
variable {o e : Expr} {es : List Expr} {to : TE} {t : TA} {name : Str} {apos cpos : Pos} {T id : String} {r : V → List V → Hp → VK → Prop}
theorem pe_bm (pa : PlainAttrs T) (slot : Slot T name id) (hty : typeOf (.builtin id) = pure (.type "method_descriptor")) (hm : MtR X id r) (ho : PE X o to) (ha : PA X (e :: es) t)
    (hbase : attributeBase o name X.env (eval o X.env) = eval o X.env := by rfl)
    (hfew : ((backTo cpos (starEach (e :: es) X.env)).all (fun x => !x.1) && (backToKw cpos (keywordEach [] X.env)).all (fun x => x.1.isSome)
      && decide ((e :: es).length + ([] : List Keyword).length + (if ([] : List Keyword).isEmpty then 0 else 1) < 30)) = true := by rfl)
    (hline : (apos.endLine == cpos.line) = true := by rfl) (hs : starEach (e :: es) X.env = (false, eval e X.env) :: starEach es X.env := by rfl) (hplain : (backTo cpos (starEach es X.env)).any (·.1) = false := by rfl) :
    PE X (.Call (.Attribute o name apos) (e :: es) [] cpos) (tBM X.K T r to t) := by
  intro pins s σ H Q I h
  refine wpAny_Call_method_late hbase hfew hline rfl (thn (ho pins s σ H _ I h) fun v s1 ⟨x, H1, I1, r1, ty, q1⟩ => ?_)
  obtain ⟨h1, h2⟩ := tyV_is I1 r1 ty
  refine ⟨T, id, pa, slot, hty, h1, h2, ?_⟩
  have hA := ha cpos pins s1 σ H1 _ I1 q1
  rw [hs] at hA ⊢
  refine Calls.callWith_builtin (by show (false || (backTo cpos (starEach es X.env)).any (·.1)) = false; rw [hplain] <;> rfl) (Calls.evalArgs_plain ?_)
  exact thn hA fun us s2 ⟨vs, H2, I2, r2, q2⟩ => hm pins s2 σ H2 x vs v us Q I2 r1 r2 q2
end
end L2

namespace L2
open PySem PySem.Spec PyProof.Rows

def MtM (X : Cx) (id : String) (r : V → List V → Hp → VK → Prop) : Prop :=
  ∀ (pins : List (Addr × Obj)) (s : Shared) (σ : St) (H : Hp) (x : V) (xs : List V) (v : Value) (us : List Value) (Q : VK), Inv X pins σ H s → RelV x v → Vals xs us → r x xs H Q →
    wpAny (model X.prog X.w) X.A (call (.builtin id) (v :: us)) (EP X pins σ Q) X.xe s

theorem Vals.one : ∀ {x : V} {us : List Value}, Vals [x] us → ∃ u, us = [u] ∧ RelV x u
  | _, _, .cons r .nil => ⟨_, rfl, r⟩
theorem Vals.two : ∀ {x y : V} {us : List Value}, Vals [x, y] us → ∃ u v, us = [u, v] ∧ RelV x u ∧ RelV y v
  | _, _, _, .cons r (.cons q .nil) => ⟨_, _, rfl, r, q⟩
theorem Vals.zero : ∀ {us : List Value}, Vals [] us → us = []
  | _, .nil => rfl
theorem Vals.reverse {xs : List V} {us : List Value} (h : Vals xs us) : Vals xs.reverse us.reverse := by
  induction h with
  | nil => exact .nil
  | cons r t ih => rw [List.reverse_cons, List.reverse_cons]; exact Vals.append ih (.cons r .nil)
section
variable {X : Cx} {pins : List (Addr × Obj)} {σ : St} {H : Hp} {s : Shared} {l b : Addr} {xs ys zs : List V}

theorem Inv.lset {its its' : List Value} {n : Nat} {f : Array Value → Array Value} {t' : Nat} (I : Inv X pins σ H s) (hH : H l = some (.lst xs))
    (e : s.heap.get? l = some { cls := .type "list", data := .seq its.toArray n }) (hf : f its.toArray = its'.toArray) (hv : Vals ys its') (hz : ys.length ≤ sizeLine) :
    Inv X pins σ (upd H l (.lst ys)) { s with heap := s.heap.update l (Obj.mapSeq f), toks := t' } := by
  have q := PySem.IsL.update e f
  rw [hf] at q
  refine I.write (x := l) (e := l) (by rw [hH]; exact trivial) (.inl rfl) (fun b' u hb hu => (Heap.get?_update_other s.heap (Obj.mapSeq f) (Ne.symm hb)).trans hu) ⟨_, q⟩ ?_
  exact ⟨hz, its', _, hv, q⟩
theorem Inv.lnew {its : List Value} {t' : Nat} (I : Inv X pins σ H s) (hv : Vals ys its) (hz : ys.length ≤ sizeLine) :
    Inv X pins σ (upd H s.heap.objs.size (.lst ys)) { s with heap := s.heap.push { cls := .type "list", data := .seq its.toArray }, toks := t' } :=
  I.laid (fun _ _ q => Heap.get?_push_of_some _ q) (Nat.le_refl _) ⟨hz, its, 0, hv, Heap.get?_push_size _ rfl⟩
theorem Inv.fresh (I : Inv X pins σ H s) : H s.heap.objs.size = none := I.hok.fresh (Nat.le_refl _)
theorem Inv.lstM (I : Inv X pins σ H s) (hH : H l = some (.lst xs)) : xs.length ≤ sizeLine ∧ ∃ (its : List Value) (n : Nat), Vals xs its ∧ xs.length = its.length ∧ s.heap.get? l = some { cls := .type "list", data := .seq its.toArray n } := by
  obtain ⟨z, its, n, r, e⟩ := I.hok l _ hH
  exact ⟨z, its, n, r, r.length, e⟩

end

section
variable {X : Cx}

def rAppend : V → List V → Hp → VK → Prop := fun x vs H Q => ∃ l xs y, x = .ref l ∧ vs = [y] ∧ H l = some (.lst xs) ∧ xs.length < sizeLine ∧ Q .non (upd H l (.lst (xs ++ [y])))
theorem mt_append : MtM X "list.append" rAppend := by
  intro pins s σ H x vs v us Q I rx rv h
  obtain ⟨l, xs, y, rfl, rfl, hH, hz, q⟩ := h
  cases rx
  obtain ⟨u, rfl, ru⟩ := rv.one
  obtain ⟨z, its, n, r, hl, e⟩ := I.lstM hH
  refine call_meets F.slot_list_append ⟨_, e, rfl⟩ F.entry_list_append (F.args_list_append_2 _ _) (PySem.list_append l its.toArray n u (by rw [List.size_toArray]; omega)) ⟨e, ?_⟩
  refine ⟨.non, _, I.lset (its' := its ++ [u]) hH e (by simp) (r.append (.cons ru .nil)) ?_, rfl, q⟩
  rw [List.length_append, List.length_singleton]
  omega

def rCat : R2 := fun x y H Q => ∃ l b xs zs, x = .ref l ∧ y = .ref b ∧ H l = some (.lst xs) ∧ H b = some (.lst zs) ∧ xs.length + zs.length ≤ sizeLine ∧ ∀ p, H p = none → Q (.ref p) (upd H p (.lst (xs ++ zs)))
theorem op_cat : OpR X (binaryOp .Add) rCat := by
  intro pins s σ H x y v u Q I rx ry h
  obtain ⟨l, b, xs, zs, rfl, rfl, hH, hB, hz, q⟩ := h
  cases rx
  cases ry
  obtain ⟨z, its, n, r, hl, e⟩ := I.lstM hH
  obtain ⟨z2, its2, n2, r2, hl2, e2⟩ := I.lstM hB
  refine PySem.P.add_list e e2 ?_ (by rw [List.size_toArray, List.size_toArray]; omega)
  have ea : its.toArray ++ its2.toArray = (its ++ its2).toArray := by simp
  rw [ea]
  exact ⟨.ref _, _, I.lnew (t' := s.toks) (r.append r2) (by rw [List.length_append]; omega), rfl, q _ I.fresh⟩
end

section
variable {prog : Program} {w : World} {A : Around} {E : Value → Shared → Prop} {s : Shared}
set_option maxRecDepth 100000 in
end

section
variable {X : Cx}
end
end L2

namespace Att
open PySem PySem.W PySem.Calls PyProof.Rows

theorem ints_of_wellAll {P : Params} {h : Heap} : ∀ (ns : List Int) (vs : List Value), WellAll P h vs (ns.map WData.int) → IntsAre vs ns := by
  intro ns
  induction ns with
  | nil =>
    intro vs w
    rw [List.map_nil] at w
    cases w
    exact .nil
  | cons n ns ih =>
    intro vs w
    rw [List.map_cons] at w
    cases w with
    | cons a b =>
      cases a
      exact .cons _ _ (ih _ b)

theorem script_of {l : OpenLaw} {n : Nat} (hn : l.most = some n) {P : Params} {h : Heap} {args : List WData} {vals : List Value}
    (hpre : l.row.toRowW.claim.pre args = true) (hwl : WellAll P h vals args) :
    ∃ a vs ns, vals = [Value.ref a] ∧ args = [WData.list (ns.map WData.int)] ∧ h.get? a = some { cls := .type "list", data := .seq vs.toArray } ∧ IntsAre vs ns ∧ ns.length ≤ n := by
  have hsh : WShape.hasAll [] args [.list .int] = true := (pre_splitW hpre).1
  have hc : l.pre.holds [] { args := args } = true := (pre_splitW hpre).2
  obtain ⟨d, r, rfl, h1, h2⟩ := hasAllW_cons hsh
  obtain rfl := hasAllW_nil h2
  obtain ⟨xs, rfl, h3⟩ := hasW_list h1
  obtain ⟨ns, rfl⟩ := items_int h3
  have hlen : ns.length ≤ n := by
    unfold OpenLaw.pre at hc
    have h4 : (WTm.not (.lt (.lit (.int (n : Int))) (.len (.arg 0)))).holds [] { args := [.list (ns.map .int)] } = true := by
      have h4 := (holds_andW hc).1
      rw [hn] at h4
      exact h4
    have h5 := condW_of h4 (w_not (w_lt w_lit (w_len_list (w_arg rfl))))
    rw [List.length_map] at h5
    refine Nat.le_of_not_lt fun q => ?_
    have q' : (n : Int) < ((ns.length : Nat) : Int) := by omega
    first
      | (rw [decide_eq_true q'] at h5; exact absurd h5 (by decide))
      | (simp at h5; omega)
  cases hwl with
  | cons w1 w2 =>
    cases w2
    cases w1 with
    | list ho hall => exact ⟨_, _, ns, rfl, rfl, ho, ints_of_wellAll ns _ hall, hlen⟩

theorem post_true (l : OpenLaw) (args : List WData) : l.row.toRowW.claim.post args (.bool true) args = true :=
  postW_of (r := l.row.toRowW) (X := (true == true))
    (show WShape.has [] (.bool true) .bool = true by first | rfl | decide | simp [WShape.has, WShape.arms, WShape.armsAll])
    (show (WTm.eq .res (.lit (.bool true))).value [] { args := args, res := some (.bool true), after := args } = some (.bool (true == true)) from w_eq_bool (w_res rfl) w_lit) rfl

theorem attach_call {l : OpenLaw} {n : Nat} {q : Program} {loose : List Str} {XP : (Str → Option Value) → Heap → Prop} {YP : World → Heap → Prop} {d : DefRec}
    (hn : l.most = some n) (hdf : d.params.defaults = [])
    (call : ∀ (w : World) (s₀ s₁ : Shared) (mg mb : Str → Option Value) (fa : Addr) (o : Obj) (pm cd doc : Value) (a : Addr) (vs : List Value) (ns : List Int),
      Ground q loose [] XP w s₀ mg mb s₁.heap → YP w s₁.heap →
      s₁.heap.get? fa = some o → o.data = .func (docDef d.name d.params d.body d.scope pm cd doc) → s₁.heap.CodeRec cd d.name → mg d.name = some (.ref fa) →
      s₁.heap.get? a = some { cls := .type "list", data := .seq vs.toArray } → IntsAre vs ns → ns.length ≤ n → s₁.gens = #[] →
      codeAny (model l.prog w) callerA (.call (.ref fa) ⟨[.ref a], []⟩) (fun r s' => r = .ok (.ret (.bool true)) ∧ OldK s₁.heap s'.heap ∧ s'.os = s₁.os ∧ AllBare s'.gens) s₁) :
    WalkO q loose XP YP l.row.toRowW d [] (fun f vs => PySem.call f vs) := by
  intro w s₀ s₁ mg mb G Y fa o pm cd doc dV kV ho hd hcd hD hmg hg args vals as hpre hlay hrd hwl hlo
  obtain rfl : dV = .none := Dflts.none hD hdf
  obtain rfl : kV = .none := Dflts.noKw hD
  obtain ⟨a, vs, ns, rfl, rfl, hobj, hints, hlen⟩ := script_of hn hpre hwl
  refine enter_call (codeAny_mono (call w s₀ s₁ mg mb fa o pm cd doc a vs ns G Y ho (fd_plain hd) hcd hmg hobj hints hlen hg) fun r s' hq => ?_)
  obtain ⟨rfl, h2, h3, h4⟩ := hq
  exact ⟨.inl ⟨.bool true, .bool true, [], rfl, fun _ => rfl, .bool true, post_true l _, fun _ => ⟨List.Pairwise.nil, fun _ hm => (nomatch hm)⟩⟩, h2, h3, h4⟩

section
variable {prog : Program} {w : World} {A : Around} {E : Value → Shared → Prop} {s : Shared} {K : Frag}

end
end Att

namespace L2
open PySem PySem.Spec PyProof.Rows

theorem vals_ints : ∀ {vs : List Value} {ns : List Int}, IntsAre vs ns → Vals (ns.map V.int) vs
  | _, _, .nil => .nil
  | _, _, .cons n t h => .cons ⟨t, rfl⟩ (vals_ints h)

def Only (H : Hp) : Prop := ∀ b, H b = none ∨ ∃ o xs, H b = some (.frz o (.lst xs))

theorem law_call {P : Program} {w : World} {K : PySem.W.Frag} {mg mb : Str → Option Value} {CX : CXT} {k : Nat} {fa a : Addr} {fd : FuncData} {x : Str} {sp : Sp} {s₁ : Shared} {vs : List Value} {ns : List Int}
    (KX : K.In s₁.heap) (hns : s₁.heap.Ns mainGlobals mg) (hb : s₁.heap.Ns builtinsNs mb) (hbb : ∀ x : Str, x ≠ "__name__" → mb x = bootBuiltins x) (hlim : s₁.heap.NoLimit) (hg : s₁.gens = #[])
    (ha : s₁.heap.get? a = some { cls := .type "list", data := .seq vs.toArray }) (hi : IntsAre vs ns) (hl : ns.length ≤ sizeLine) (hr : Room k callerA)
    (F : ∀ base : Heap, K.In base → base.Ns mainGlobals mg → FnOk P w K mg base CX k fa fd [x] sp) (hbind : ∀ (s : Shared) (u : Value), BindsTo s fd ⟨[u], []⟩ [(x, u)])
    (hsp : ∀ H : Hp, Only H → SqL K H a (ns.map V.int) → sp [.ref a] H (fun v _ => v = .bl true) fun _ _ _ => False)
    (hCX : ∀ H e s', CX [] H s₁ (fun _ _ _ => False) e s' → False) :
    codeAny (model P w) callerA (.call (.ref fa) ⟨[.ref a], []⟩) (fun r s' => r = .ok (.ret (.bool true)) ∧ OldK s₁.heap s'.heap ∧ s'.os = s₁.os ∧ AllBare s'.gens) s₁ := by
  have rv := vals_ints hi
  have lenV := hi.length
  -- from an abstract heap in which nothing but the script may be tracked
  have core : ∀ H : Hp, Only H → SqL K H a (ns.map V.int) → HOk P w H s₁.heap → (∀ b, H b ≠ none → b = a) → (H a ≠ none → K.lookup a = none) →
      codeAny (model P w) callerA (.call (.ref fa) ⟨[.ref a], []⟩) (fun r s' => r = .ok (.ret (.bool true)) ∧ OldK s₁.heap s'.heap ∧ s'.os = s₁.os ∧ AllBare s'.gens) s₁ := by
    intro H hO hS hok hA hK
    have base_of : ∀ {b : Addr} {o : Obj}, s₁.heap.get? b = some o → H b = none → (hidT s₁.heap H).get? b = some o := fun e n => hidT_get e n
    have noA : ∀ {b : Addr} {o : Obj} {es : Array DictEntry} {ep : Nat}, s₁.heap.get? b = some o → o.data = .dict es ep → H b = none := fun {b o es ep} e d => by
      cases q : H b with
      | none => rfl
      | some u =>
        have e' : b = a := hA b (by rw [q]; simp)
        subst e'
        rw [ha] at e; cases e
        have d' : Data.seq vs.toArray _ = Data.dict es ep := d
        cases d'
    have nsK : ∀ {b : Addr} {m : Str → Option Value}, s₁.heap.Ns b m → (hidT s₁.heap H).Ns b m := fun {b m} ⟨o, es, ep, e, d, r⟩ => ⟨o, es, ep, base_of e (noA e d), d, r⟩
    have hKb : K.In (hidT s₁.heap H) := fun b o e => base_of (KX b o e) (by
      cases q : H b with
      | none => rfl
      | some u =>
        have e' : b = a := hA b (by rw [q]; simp)
        subst e'
        rw [hK (by rw [q]; simp)] at e; cases e)
    have hM : Mod K mg (hidT s₁.heap H) := ⟨hKb, nsK hns, ⟨mb, nsK hb, hbb⟩, let ⟨mc, h1, h2⟩ := hlim; ⟨mc, nsK h1, h2⟩⟩
    have e0 : Env0 P w K mg (hidT s₁.heap H) callerA [] s₁ H := ⟨rfl, hM, fun b o e => of_hidT e, Nat.le_of_eq (hidT_size _ _), trivial, fun b hb => absurd (show b ∈ ([] : List Addr) from hb) (by simp), hok, .of_eq hg⟩
    refine codeAny_mono ((F _ hKb (nsK hns)).run callerA [] s₁ H ⟨[.ref a], []⟩ [.ref a] [.ref a] _ _ hr e0 (hbind s₁ (.ref a)) (.cons rfl .nil) (hsp H hO hS)) fun r s' h => ?_
    cases r with
    | error e => exact (hCX H e s' h).elim
    | ok fl =>
      cases fl with
      | next => exact False.elim h
      | brk => exact False.elim h
      | cont => exact False.elim h
      | ret u =>
        obtain ⟨v, H', os, bare, un, hok', r', q⟩ := h
        have q' : v = .bl true := q
        subst q'
        obtain rfl : u = Value.bool true := r'
        refine ⟨rfl, OldK.of_keep fun b o e => ?_, os, bare⟩
        cases q : H b with
        | none => exact un.keep b o e q (by intro z; exact absurd (show b ∈ ([] : List Addr) from z) (by simp)) (by simp)
        | some u =>
          rcases hO b with z | ⟨ob, xs, z⟩
          · rw [q] at z; cases z
          · have z2 := un.frzs b ob _ z
            obtain ⟨e1, _⟩ := hok b _ z
            obtain ⟨e2, _⟩ := hok' b _ z2
            rw [e] at e1; cases e1
            exact e2
  cases hk : K.lookup a with
  | some o =>
    -- the script is one of the module's own objects
    have e := KX a o hk
    rw [ha] at e
    cases e
    refine core (fun _ => none) (fun _ => .inl rfl) (.inr ⟨_, vs.toArray, _, hk, rfl, rfl, rfl, by rw [List.size_toArray, lenV]; exact hl, by simpa using rv⟩) (fun b u z => by have z' : (none : Option HO) = some u := z; cases z') (fun b z => absurd rfl z) fun z => absurd rfl z
  | none =>
    refine core (fun b => if b = a then some (.frz { cls := .type "list", data := .seq vs.toArray } (.lst (ns.map V.int))) else none) (fun b => ?_) (.inl (.inr ⟨{ cls := .type "list", data := .seq vs.toArray }, if_pos rfl⟩)) (fun b u z => ?_) (fun b z => ?_) fun _ => hk
    · by_cases hb : b = a
      · exact .inr ⟨_, _, if_pos hb⟩
      · exact .inl (if_neg hb)
    · by_cases hb : b = a
      · have z' := (if_pos hb).symm.trans z
        cases z'
        subst hb
        exact ⟨ha, by rw [List.length_map]; exact hl, vs, _, rv, ha⟩
      · have z' := (if_neg hb).symm.trans z
        cases z'
    · by_cases hb : b = a
      · exact hb
      · exact absurd (if_neg hb) z
end L2

namespace L2
open PySem PySem.Spec PyProof.Rows

theorem walk_of {l : PySem.W.OpenLaw} {n k : Nat} {q : Program} {loose : List Str} {XP : (Str → Option Value) → Heap → Prop} {YP : World → Heap → Prop} {d : DefRec} {K : Params → PySem.W.Frag} {CX : World → CXT} {sp : World → Sp} {x : Str}
    (hn : l.most = some n) (hn2 : n ≤ sizeLine) (hdf : d.params.defaults = []) (hr : Room k callerA)
    (hY : ∀ (w : World) (h : Heap), YP w h → (K w.params).In h)
    (F : ∀ (w : World) (mg : Str → Option Value) (fa : Addr) (h : Heap), (K w.params).In h → h.Ns mainGlobals mg → mg d.name = some (.ref fa) →
      ∃ fd : FuncData, (∀ (s : Shared) (u : Value), BindsTo s fd ⟨[u], []⟩ [(x, u)]) ∧
        ∀ base : Heap, (K w.params).In base → base.Ns mainGlobals mg → FnOk l.prog w (K w.params) mg base (CX w) k fa fd [x] (sp w))
    (hsp : ∀ (w : World) (H : Hp) (a : Addr) (ns : List Int), ns.length ≤ n → Only H → SqL (K w.params) H a (ns.map V.int) → sp w [.ref a] H (fun v _ => v = .bl true) fun _ _ _ => False)
    (hCX : ∀ (w : World) (H : Hp) (s : Shared) (e : Value) (s' : Shared), CX w [] H s (fun _ _ _ => False) e s' → False) :
    PySem.W.WalkO q loose XP YP l.row.toRowW d [] (fun f vs => PySem.call f vs) := by
  refine Att.attach_call hn hdf fun w s₀ s₁ mg mb fa o pm cd doc a vs ns G Y ho hd hcd hmg hobj hints hlen hg => ?_
  have KX := hY w _ Y
  obtain ⟨fd, hb, hF⟩ := F w mg fa _ KX G.T.g hmg
  exact law_call KX G.T.g G.T.b G.T.builtins G.T.nolimit hg hobj hints (Nat.le_trans hlen hn2) hr hF hb (fun H hO hS => hsp w H a ns hlen hO hS) fun H e s' => hCX w H s₁ e s'
end L2

namespace L2
open PySem PySem.Spec PyProof.Rows

def defArgs (s : Stmt) : Arguments := match s with
  | .FunctionDef _ a _ _ _ _ _ _ _ _ => a
  | _ => { posonlyargs := [], args := [], vararg := none, kwonlyargs := [], kw_defaults := [], kwarg := none, defaults := [] }
def defBody (s : Stmt) : List Stmt := match s with
  | .FunctionDef _ _ b _ _ _ _ _ _ _ => b
  | _ => []
def defScope (s : Stmt) : Scope := match s with
  | .FunctionDef _ _ _ _ _ _ sc _ _ _ => sc
  | _ => { kind := .function, names := [], isGenerator := false, isCoroutine := false }

abbrev CX0 : CXT := fun _ _ _ _ _ _ => False
abbrev E0 : XK := fun _ _ _ => False
theorem pass0 {X : Cx} : Passes CX0 X E0 := fun _ _ _ _ _ _ _ h => h.elim

structure Fun (K : PySem.W.Frag) (x qual : Str) (st : Stmt) (f : Addr) (fd : FuncData) : Prop where
  ex : ∃ (oc : Value) (od : Option Addr) (kV doc pm : Value) (an : Option Addr) (cdv ct : Value) (osl : Array (Option Value)),
    fd = PySem.W.fnOf x qual (defArgs st) (defBody st) (defScope st) .none kV doc pm an cdv ct ∧ K.lookup f = some ⟨oc, od, .func fd, osl⟩ ∧ PySem.W.codeIn K cdv qual = true
  kp : PySem.W.keepIn K (.ref f) = true
section
variable {P : Program} {w : World} {K : PySem.W.Frag} {mg : Str → Option Value} {base : Heap}
theorem Fun.ok {x qual : Str} {st : Stmt} {f : Addr} {fd : FuncData} {N ps : List Str} {k : Nat} {sp : Sp} (F : Fun K x qual st f fd) (S : FnScope N ps (defScope st)) (len : ∀ vs H Q E, sp vs H Q E → vs.length = ps.length)
    (hbody : ∀ (cdv : Value) (A : Around) (outer : List Env) (s : Shared) (H : Hp) (vs : List V) (Q : VK) (E : XK), Room k (A.deeper (envOfC qual (defScope st) s.heap.objs.size f cdv)) → sp vs H Q E →
      ∃ t, PSs (cxOf CX0 P w K mg base N qual (defScope st) f cdv A outer s H E).nox (defBody st) t ∧ t { nx := fun _ H' => Q .non H', rt := Q } (start N vs) H) : FnOk P w K mg base CX0 (k + 1) f fd ps sp := by
  obtain ⟨oc, od, kV, doc, pm, an, cdv, ct, osl, rfl, lk, hcd⟩ := F.ex
  refine fn_of lk hcd S len fun A outer s H vs Q E hr hsp => ?_
  obtain ⟨t, h, q⟩ := hbody cdv A outer s H vs Q E hr hsp
  exact ⟨t, h.nox, q⟩
theorem Fun.binds {x qual : Str} {st : Stmt} {f : Addr} {fd : FuncData} {ps : List Str} (F : Fun K x qual st f fd)
    (h : ∀ (kV doc pm : Value) (an : Option Addr) (cdv ct : Value) (us : List Value), us.length = ps.length → bindArgs (PySem.W.fnOf x qual (defArgs st) (defBody st) (defScope st) .none kV doc pm an cdv ct) ⟨us, []⟩ = pure (ps.zip us)) : Binds K fd ps [] := by
  obtain ⟨oc, od, kV, doc, pm, an, cdv, ct, osl, rfl, lk, hcd⟩ := F.ex
  exact .all (h kV doc pm an cdv ct)
theorem fun_mk {x qual : Str} {st : Stmt} {f : Addr} {oc : Value} {od an : Option Addr} {osl : Array (Option Value)} {kV doc pm cdv ct : Value} (l : K.lookup f = some ⟨oc, od, .func (PySem.W.fnOf x qual (defArgs st) (defBody st) (defScope st) .none kV doc pm an cdv ct), osl⟩)
    (c : PySem.W.codeIn K cdv qual = true) (k : PySem.W.keepIn K (.ref f) = true) : Fun K x qual st f (PySem.W.fnOf x qual (defArgs st) (defBody st) (defScope st) .none kV doc pm an cdv ct) := ⟨⟨oc, od, kV, doc, pm, an, cdv, ct, osl, rfl, l, c⟩, k⟩
end
section
variable {X : Cx}
theorem pv (i : Nat) {x : Str} {pos : Pos} (hN : X.N[i]? = some x := by rfl) (hv : Vis X.env.scope x := by first | exact Or.inl rfl | exact Or.inr (Or.inl rfl) | exact Or.inr (Or.inr rfl)) (hd : (x == ("__debug__" : Str)) = false := by decide)
    (hcd : (x == ("__classdict__" : Str)) = false := by decide) : PE X (.Name x pos) (tVar i) := pe_var hN hv hd hcd
end

theorem iteF {A B : Prop} (h : B) : if false = true then A else B := by
  rw [if_neg Bool.false_ne_true]
  exact h
theorem iteT {A B : Prop} (h : A) : if true = true then A else B := by
  rw [if_pos rfl]
  exact h
theorem ite2 {c A B : Prop} [Decidable c] (h1 : c → A) (h2 : ¬ c → B) : if c then A else B := by
  by_cases h : c
  · rw [if_pos h]
    exact h1 h
  · rw [if_neg h]
    exact h2 h
def Same (H H' : Hp) : Prop := ∀ b o, H b = some o → H' b = some o
theorem Same.refl (H : Hp) : Same H H := fun _ _ h => h
theorem Same.trans {H H1 H2 : Hp} (a : Same H H1) (b : Same H1 H2) : Same H H2 := fun c o h => b c o (a c o h)
theorem Same.free {H H' : Hp} (e : Same H H') {l : Addr} (h : H' l = Option.none) : H l = Option.none := by
  cases q : H l with
  | none => rfl
  | some o =>
    rw [e l o q] at h
    cases h
theorem Same.seq {K : PySem.W.Frag} {H H' : Hp} {a : Addr} {xs : List V} (e : Same H H') (h : SqL K H a xs) : SqL K H' a xs := by
  rcases h with (h | ⟨o, h⟩) | h
  · exact .inl (.inl (e _ _ h))
  · exact .inl (.inr ⟨o, e _ _ h⟩)
  · exact .inr h

end L2

namespace L2
open PySem PySem.Spec PyProof.Rows

section
variable {κ : Type} [DecidableEq κ]
def valV (kvs : List (κ × V)) (k : κ) : Option V := (kvs.find? fun kv => decide (kv.1 = k)).map (·.2)
def putK (kvs : List (κ × V)) (k : κ) (v : V) : List (κ × V) :=
  if (kvs.any fun kv => decide (kv.1 = k)) = true then kvs.map (fun kv => if kv.1 = k then (kv.1, v) else kv) else kvs ++ [(k, v)]
def dropK (kvs : List (κ × V)) (k : κ) : List (κ × V) := kvs.filter fun kv => decide (kv.1 ≠ k)

theorem valV_pos {p : κ × V} {r : List (κ × V)} {k : κ} (e : p.1 = k) : valV (p :: r) k = some p.2 := by simp [valV, List.find?_cons, e]
theorem valV_neg {p : κ × V} {r : List (κ × V)} {k : κ} (e : ¬ p.1 = k) : valV (p :: r) k = valV r k := by simp [valV, List.find?_cons, e]
theorem RelO.getD {o : Option V} {u : Option Value} {d : V} {d' : Value} (r : RelO o u) (rd : RelV d d') : RelV (o.getD d) (u.getD d') := by
  cases o with
  | none => cases u with
    | none => exact rd
    | some _ => exact (show False from r).elim
  | some _ => cases u with
    | none => exact (show False from r).elim
    | some _ => exact r

theorem KV.val {kvs : List (κ × V)} {vs : List (κ × Value)} (r : KV kvs vs) (k : κ) : RelO (valV kvs k) (valueAt vs k) := by
  unfold KV at r
  induction r with
  | nil => exact True.intro
  | @cons p q ps qs h t ih =>
    obtain ⟨h1, h2⟩ := h
    by_cases e : p.1 = k
    · have e' : q.1 = k := h1.symm.trans e
      have b : valueAt (q :: qs) k = some q.2 := by simp [valueAt, List.find?_cons, e']
      rw [valV_pos e, b]; exact h2
    · have e' : ¬ q.1 = k := fun z => e (h1.trans z)
      have b : valueAt (q :: qs) k = valueAt qs k := by simp [valueAt, List.find?_cons, e']
      rw [valV_neg e, b]; exact ih
theorem KV.any {kvs : List (κ × V)} {vs : List (κ × Value)} (r : KV kvs vs) (k : κ) : (kvs.any fun kv => decide (kv.1 = k)) = vs.any fun kv => decide (kv.1 = k) := by
  unfold KV at r
  induction r with
  | nil => rfl
  | cons h t ih => rw [List.any_cons, List.any_cons, ih, h.1]
theorem KV.drop {kvs : List (κ × V)} {vs : List (κ × Value)} (r : KV kvs vs) (k : κ) : KV (dropK kvs k) (without vs k) := by
  unfold KV at r ⊢
  unfold dropK without
  induction r with
  | nil => exact .nil
  | @cons p q ps qs h t ih =>
    obtain ⟨h1, h2⟩ := h
    rw [List.filter_cons, List.filter_cons]
    by_cases e : p.1 = k
    · have a : ¬ decide (p.1 ≠ k) = true := by simp [e]
      have b : ¬ decide (q.1 ≠ k) = true := by simp [h1.symm.trans e]
      rw [if_neg a, if_neg b]; exact ih
    · have e' : ¬ q.1 = k := fun z => e (h1.trans z)
      have a : decide (p.1 ≠ k) = true := by simp [e]
      have b : decide (q.1 ≠ k) = true := by simp [e']
      rw [if_pos a, if_pos b]; exact .cons ⟨h1, h2⟩ ih
theorem KV.keys {kvs : List (κ × V)} {vs : List (κ × Value)} (r : KV kvs vs) : kvs.map (·.1) = vs.map (·.1) := by
  unfold KV at r
  induction r with
  | nil => rfl
  | cons h t ih => rw [List.map_cons, List.map_cons, ih, h.1]
theorem KV.length {kvs : List (κ × V)} {vs : List (κ × Value)} (r : KV kvs vs) : kvs.length = vs.length := Paired.length r
end


theorem kV_is {P : Program} {w : World} {k : Key} {u : Value} (r : RelV (kV k) u) : (mixKind P w).is k u = true := by
  cases k with
  | inl i => obtain ⟨t, e⟩ := (show ∃ t, u = Value.int i t from r); subst e; exact mixKind_int P w i t
  | inr x => obtain ⟨t, e⟩ := (show ∃ t, u = Value.str x t from r); subst e; exact mixKind_str P w x t
abbrev KT (H : Hp) : List (List Key × V) → List (List Key × Addr × Value) → Prop := Paired fun p q => p.1 = q.1 ∧ H q.2.1 = some (.tup (p.1.map kV)) ∧ RelV p.2 q.2.2
theorem KT.val {H : Hp} {kvs : List (List Key × V)} {xs : List (List Key × Addr × Value)} (r : KT H kvs xs) (k : List Key) : RelO (valV kvs k) ((atKey xs k).map (·.2)) := by
  induction r with
  | nil => exact True.intro
  | @cons p q ps qs h t ih =>
    obtain ⟨h1, _, h2⟩ := h
    by_cases e : p.1 = k
    · have e' : q.1 = k := h1.symm.trans e
      have b : atKey (q :: qs) k = some q.2 := by simp [atKey, List.find?_cons, e']
      rw [valV_pos e, b]; exact h2
    · have e' : ¬ q.1 = k := fun z => e (h1.trans z)
      have b : atKey (q :: qs) k = atKey qs k := by simp [atKey, List.find?_cons, e']
      rw [valV_neg e, b]; exact ih
theorem KT.keeps {H H' : Hp} {kvs : List (List Key × V)} {xs : List (List Key × Addr × Value)} (r : KT H kvs xs) (ht : ∀ b ys, H b = some (.tup ys) → H' b = some (.tup ys)) : KT H' kvs xs :=
  Paired.mapP r fun _ _ z => ⟨z.1, ht _ _ z.2.1, z.2.2⟩

section
variable {P : Program} {w : World} {H : Hp} {h : Heap} {a : Addr}
end

def DGet (H : Hp) (a : Addr) (y : V) (r : Option V) : Prop :=
  (∃ kvs k, Rd H a (.dK kvs) ∧ y = kV k ∧ r = valV kvs k) ∨ ∃ kvs k b, Rd H a (.dT kvs) ∧ y = .ref b ∧ H b = some (.tup (k.map kV)) ∧ r = valV kvs k
def DPut (H : Hp) (a : Addr) (y v : V) (H' : Hp) : Prop :=
  (∃ kvs k, H a = some (.dK kvs) ∧ y = kV k ∧ kvs.length < sizeLine ∧ H' = upd H a (.dK (putK kvs k v))) ∨
  ∃ kvs k b, H a = some (.dT kvs) ∧ y = .ref b ∧ H b = some (.tup (k.map kV)) ∧ kvs.length < sizeLine ∧ H' = upd H a (.dT (putK kvs k v))
theorem DGet.k {H : Hp} {a : Addr} {kvs : List (Key × V)} {k : Key} (e : H a = some (.dK kvs)) : DGet H a (kV k) (valV kvs k) := .inl ⟨kvs, k, .inl e, rfl, rfl⟩
theorem DGet.t {H : Hp} {a b : Addr} {kvs : List (List Key × V)} {k : List Key} (e : H a = some (.dT kvs)) (eb : H b = some (.tup (k.map kV))) : DGet H a (.ref b) (valV kvs k) := .inr ⟨kvs, k, b, .inl e, rfl, eb, rfl⟩
theorem DPut.k {H : Hp} {a : Addr} {kvs : List (Key × V)} {k : Key} {v : V} (e : H a = some (.dK kvs)) (hl : kvs.length < sizeLine) : DPut H a (kV k) v (upd H a (.dK (putK kvs k v))) := .inl ⟨kvs, k, e, rfl, hl, rfl⟩
theorem DPut.t {H : Hp} {a b : Addr} {kvs : List (List Key × V)} {k : List Key} {v : V} (e : H a = some (.dT kvs)) (eb : H b = some (.tup (k.map kV))) (hl : kvs.length < sizeLine) :
    DPut H a (.ref b) v (upd H a (.dT (putK kvs k v))) := .inr ⟨kvs, k, b, e, rfl, eb, hl, rfl⟩


section
variable {X : Cx} {pins : List (Addr × Obj)} {σ : St} {H : Hp} {s : Shared} {a : Addr} {y v : V} {u r : Value} {o : Option V} {A : Around} {E : Value → Shared → Prop}

end

section
variable {X : Cx} {pins : List (Addr × Obj)} {σ : St} {H : Hp} {s : Shared} {a : Addr} {kvs : List (Key × V)} {k : Key} {u : Value} {A : Around} {E : Value → Shared → Prop}
end


section
variable {X : Cx} {o i e value : Expr} {pos pos' tpos : Pos} {td ty tv : TE}
end


section
variable {X : Cx} {pos : Pos}
end

structure M1 (X : Cx) (o : Expr) (m : Str) (apos : Pos) (e : Expr) (cpos : Pos) : Prop where
  base : attributeBase o m X.env (eval o X.env) = eval o X.env
  few : ((backTo cpos (starEach [e] X.env)).all (fun x => !x.1) && (backToKw cpos (keywordEach [] X.env)).all (fun x => x.1.isSome)
    && decide (([e] : List Expr).length + ([] : List Keyword).length + (if ([] : List Keyword).isEmpty then 0 else 1) < 30)) = true
  line : (apos.endLine == cpos.line) = true
  trees : backTo cpos (starEach [e] X.env) = [(false, eval e X.env)]
section
variable {X : Cx} {pins : List (Addr × Obj)} {σ : St} {H : Hp} {s : Shared} {a : Addr} {y d : V} {u r : Value} {o : Option V} {A : Around} {E : Value → Shared → Prop}
end

section
variable {X : Cx} {o e f : Expr} {apos cpos : Pos} {td ty tx : TE}
end

section
variable {X : Cx} {pins : List (Addr × Obj)} {σ : St} {H : Hp} {s : Shared} {a : Addr} {kvs : List (Key × V)} {A : Around} {E : Value → Shared → Prop}
end


section
variable {X : Cx} {pins : List (Addr × Obj)} {σ : St} {H : Hp} {s : Shared} {a : Addr} {y : V} {u : Value} {A : Around} {E : Value → Shared → Prop}
end
end L2

namespace L2
open PySem PySem.Spec PyProof.Rows
section
variable {X : Cx}
end
section
variable {κ : Type} [DecidableEq κ]
end
end L2

set_option maxHeartbeats 4000000
namespace L2
open PySem PySem.Spec PyProof.Rows
section
variable {X : Cx} {a b c d : Expr} {ta tb tc td : TE} {pos : Pos}
def tChain3 (r r' r'' : R2) (ta tb tc td : TE) : TE := fun σ H Q => ta σ H fun x H1 => tb σ H1 fun y H2 => r x y H2 fun z H3 => ∃ k, z = .bl k ∧
  (if k = true then tc σ H3 fun y' H4 => r' y y' H4 fun z' H5 => ∃ k', z' = .bl k' ∧ (if k' = true then td σ H5 fun w' H6 => r'' y' w' H6 Q else Q (.bl false) H5) else Q (.bl false) H3)
theorem pe_chain3 {op op' op'' : CmpOp} {r r' r'' : R2} (ho : OpR X (compareOp op) r) (ho' : OpR X (compareOp op') r') (ho'' : OpR X (compareOp op'') r'') (ha : PE X a ta) (hb : PE X b tb) (hc : PE X c tc) (hd : PE X d td)
    (hm : lastMarks [op, op', op''] [b, c, d] = false := by with_unfolding_all rfl) : PE X (.Compare a [op, op', op''] [b, c, d] pos) (tChain3 r r' r'' ta tb tc td) := by
  intro pins s σ H Q I h
  refine Compare_chain (thn (ha pins s σ H _ I h) fun v s1 ⟨x, H1, I1, r1, q1⟩ => chain_link (thn (hb pins s1 σ H1 _ I1 q1) fun u s2 ⟨y, H2, I2, r2, q2⟩ =>
    thn (ho pins s2 σ H2 x y v u _ I2 r1 r2 q2) fun d s3 ⟨z, H3, I3, r3, k, e, q3⟩ => ?_)) hm
  subst e
  cases r3
  refine wpAny_truthy_bool ?_
  cases k with
  | false => exact ite_ff ⟨.bl false, H3, I3, rfl, q3⟩
  | true =>
    refine ite_tt (chain_link (thn (hc pins s3 σ H3 _ I3 q3) fun u' s4 ⟨y', H4, I4, r4, q4⟩ => thn (ho' pins s4 σ H4 y y' u u' _ I4 r2 r4 q4) fun d' s5 ⟨z', H5, I5, r5, k', e', q5⟩ => ?_))
    subst e'
    cases r5
    refine wpAny_truthy_bool ?_
    cases k' with
    | false => exact ite_ff ⟨.bl false, H5, I5, rfl, q5⟩
    | true => exact ite_tt (chain_last (thn (hd pins s5 σ H5 _ I5 q5) fun w' s6 ⟨w6, H6, I6, r6, q6⟩ => ho'' pins s6 σ H6 y' w6 u' w' Q I6 r4 r6 q6))
end

def cloOf (env : Env) : List (Str × NameKind) → List (Str × Addr) → List (Str × Addr)
  | [], acc => acc
  | (n, k) :: r, acc => cloOf env r (if (k == .free) = true then (n, (env.cells.lookup n).getD 0) :: acc else acc)
theorem closure_go {env : Env} : ∀ (ns : List (Str × NameKind)) (acc : List (Str × Addr)), (∀ y ∈ ns, y.2 = .free → ∃ c, env.cells.lookup y.1 = some c) →
    (forIn ns acc fun x cs => (do if x.2 == .free then (do let a ← cellOf env x.1; pure (ForInStep.yield ((x.1, a) :: cs))) else pure (ForInStep.yield cs) : Sem _)) = pure (cloOf env ns acc)
  | [], acc, _ => rfl
  | (n, k) :: r, acc, h => by
    rw [List.forIn_cons]
    by_cases hk : k = .free
    · subst hk
      obtain ⟨c, hc⟩ := h (n, .free) List.mem_cons_self rfl
      have e : cellOf env n = pure c := by unfold cellOf; rw [hc]
      simp only [beq_self_eq_true, if_true, e, cloOf, hc, Option.getD_some, pure_bind]
      exact closure_go r _ fun y hy => h y (List.mem_cons_of_mem _ hy)
    · have hb : (k == NameKind.free) = false := by simpa using hk
      simp only [hb, Bool.false_eq_true, if_false, cloOf, pure_bind]
      exact closure_go r _ fun y hy => h y (List.mem_cons_of_mem _ hy)
theorem closure_ok {scope : Scope} {env : Env} (h : ∀ y ∈ scope.names, y.2 = .free → ∃ c, env.cells.lookup y.1 = some c) : closureFor scope env = pure (cloOf env scope.names []) := by
  have e := closure_go scope.names [] h
  unfold closureFor
  first
    | exact e
    | (simp only [] at e ⊢; exact e)
    | (simpa using e)
theorem cloOf_sub {env : Env} : ∀ {ns : List (Str × NameKind)} {acc : List (Str × Addr)} {x : Str} {c : Addr}, (∀ y ∈ ns, y.2 = .free → ∃ c, env.cells.lookup y.1 = some c) → (∀ x c, acc.lookup x = some c → env.cells.lookup x = some c) →
    (cloOf env ns acc).lookup x = some c → env.cells.lookup x = some c
  | [], acc, x, c, _, ha, h => ha x c h
  | (n, k) :: r, acc, x, c, hf, ha, h => by
    refine cloOf_sub (ns := r) (fun y hy => hf y (List.mem_cons_of_mem _ hy)) (fun x' c' h' => ?_) h
    by_cases hk : k = .free
    · subst hk
      obtain ⟨c0, hc0⟩ := hf (n, .free) List.mem_cons_self rfl
      rw [if_pos (by simp)] at h'
      rw [List.lookup_cons] at h'
      cases hx : x' == n with
      | true =>
        simp only [hx] at h'
        have : x' = n := by simpa using hx
        rw [this, ← h', hc0]; rfl
      | false => simp only [hx] at h'; exact ha _ _ h'
    · rw [if_neg (by simpa using hk)] at h'
      exact ha _ _ h'
theorem cloOf_keep {env : Env} : ∀ {ns : List (Str × NameKind)} {acc : List (Str × Addr)} {x : Str}, (∃ c, acc.lookup x = some c) → ∃ c, (cloOf env ns acc).lookup x = some c
  | [], acc, x, h => h
  | (n, k) :: r, acc, x, h => by
    refine cloOf_keep (ns := r) ?_
    split
    · rw [List.lookup_cons]
      cases hx : x == n with
      | true => exact ⟨_, rfl⟩
      | false => exact h
    · exact h
theorem cloOf_has {env : Env} : ∀ {ns : List (Str × NameKind)} {acc : List (Str × Addr)} {x : Str}, ns.lookup x = some .free → ∃ c, (cloOf env ns acc).lookup x = some c
  | [], acc, x, h => by simp at h
  | (n, k) :: r, acc, x, h => by
    rw [List.lookup_cons] at h
    cases hx : x == n with
    | true =>
      simp only [hx] at h
      cases h
      refine cloOf_keep (ns := r) ?_
      rw [if_pos (by simp), List.lookup_cons, hx]
      exact ⟨_, rfl⟩
    | false =>
      simp only [hx] at h
      exact cloOf_has (ns := r) h
theorem relabel_kind {env : Env} {scope : Scope} {x : Str} {k : NameKind} (h : (relabel scope env).names.lookup x = some k) : ∃ k0, scope.names.lookup x = some k0 ∧ (k = k0 ∨ (k0 = .free ∧ k = .cell)) := by
  unfold relabel at h
  dsimp only at h
  generalize scope.names = ns at h ⊢
  induction ns with
  | nil => simp at h
  | cons y r ih =>
    obtain ⟨n, kk⟩ := y
    rw [List.map_cons] at h
    dsimp only at h
    by_cases hc : (kk == NameKind.free && env.scope.kind == .function && env.kindOf n == some .cell) = true
    · rw [if_pos hc, List.lookup_cons] at h
      rw [List.lookup_cons]
      cases hx : x == n with
      | true =>
        simp only [hx] at h ⊢
        have : kk = .free := by simp at hc; exact hc.1.1
        exact ⟨_, rfl, .inr ⟨this, (Option.some.inj h).symm⟩⟩
      | false => simp only [hx] at h ⊢; exact ih h
    · rw [if_neg hc, List.lookup_cons] at h
      rw [List.lookup_cons]
      cases hx : x == n with
      | true => simp only [hx] at h ⊢; exact ⟨_, rfl, .inl (Option.some.inj h).symm⟩
      | false => simp only [hx] at h ⊢; exact ih h
theorem relabel_free {env : Env} {scope : Scope} {x : Str} (h : scope.names.lookup x = some .free) : (relabel scope env).names.lookup x = some .cell ∨ (relabel scope env).names.lookup x = some .free := by
  unfold relabel
  dsimp only
  generalize scope.names = ns at h ⊢
  induction ns with
  | nil => simp at h
  | cons y r ih =>
    obtain ⟨n, kk⟩ := y
    rw [List.lookup_cons] at h
    rw [List.map_cons]
    dsimp only
    cases hx : x == n with
    | true =>
      simp only [hx] at h
      cases h
      by_cases hc : (NameKind.free == NameKind.free && env.scope.kind == .function && env.kindOf n == some .cell) = true
      · rw [if_pos hc, List.lookup_cons, hx]; exact .inl rfl
      · rw [if_neg hc, List.lookup_cons, hx]; exact .inr rfl
    | false =>
      simp only [hx] at h
      by_cases hc : (kk == NameKind.free && env.scope.kind == .function && env.kindOf n == some .cell) = true
      · rw [if_pos hc, List.lookup_cons, hx]; exact ih h
      · rw [if_neg hc, List.lookup_cons, hx]; exact ih h

def cxComp (X : Cx) (N : List Str) (scope : Scope) (C : Addr) (fp : List Addr) (s : Shared) (H : Hp) : Cx where
  prog := X.prog
  w := X.w
  K := X.K
  mg := X.mg
  base := X.base
  A := X.A
  N := N
  s₀ := s
  H₀ := H
  env := compEnvC scope (cloOf X.env scope.names []) C X.env
  outer := X.stack
  stack := X.stack
  ex := fp
  fn := fun _ => false
  calm := X.calm
  pn := []
  xe := fun _ _ => False
structure CompOk (NX : List Str) (nx : List (Str × NameKind)) (N : List Str) (k : Nat) (caps : List Nat) (sc : Scope) : Prop where
  kind : sc.kind = .function
  len : N.length = k + caps.length
  cap : (N.drop k).map some = caps.map (NX[·]?)
  fre : ∀ x ∈ N.drop k, sc.names.lookup x = some .free ∧ (nx.lookup x = some .cell ∨ nx.lookup x = some .free)
  cell : ∀ y ∈ sc.names, y.2 ≠ .cell
  loc : ∀ y ∈ sc.names, y.2 = .local → sc.names.lookup y.1 = some .local
  free : ∀ y ∈ sc.names, y.2 = .free → nx.lookup y.1 = some .cell ∨ nx.lookup y.1 = some .free
def capσ (σ : St) (caps : List Nat) : St := caps.map fun j => (σ[j]?).join
def tComp (wi : TI) (k : Nat) (caps : List Nat) (g : TG) (tc : TT) (te : TE) : TE := fun σ H Q => wi σ H fun J H1 => ∀ D, H1 D = none →
  ∃ W : Nat → Nat → List V → St → Hp → Prop, (∃ m, W 0 m [] (List.replicate k none ++ capσ σ caps) (upd H1 D (.lst []))) ∧
    ∀ i m ys σ' H', W i m ys σ' H' → H' D = some (.lst ys) →
      (J.stop i H' ∧ Q (.ref D) H') ∨ (J.go i H' ∧ ∀ x H2, J.yld i H' x H2 → g x σ' H2 fun σ3 H3 => tc σ3 H3 fun b H4 =>
        if b = true then te σ3 H4 fun y H5 => H5 D = some (.lst ys) ∧ ys.length < sizeLine ∧ ∃ m', m' < m ∧ W (i + 1) m' (ys ++ [y]) σ3 (upd H5 D (.lst (ys ++ [y])))
        else H4 D = some (.lst ys) ∧ ∃ m', m' < m ∧ W (i + 1) m' ys σ3 H4)
def PCs (X : Cx) (ifs : List Expr) (t : TT) : Prop :=
  ∀ (pins : List (Addr × Obj)) (s : Shared) (σ : St) (H : Hp) (Q : Bool → Hp → Prop), Inv X pins σ H s → t σ H Q →
    wpAny (model X.prog X.w) X.A (forIn ifs true fun c r => if r = true then do let ok ← isTrue c X.env (eval c X.env); pure (ForInStep.yield ok) else pure (ForInStep.yield r)) (TP X pins σ Q) X.xe s
def tYes : TT := fun _ H Q => Q true H
theorem pcs_nil {X : Cx} : PCs X [] tYes := fun _ _ _ H _ I h => wpAny_tests_nil ⟨H, I, h⟩
theorem compLoop_own {prog : Program} {w : World} {A : Around} {R : Result → Shared → Prop} {s : Shared} {elt target iter : Expr} {ifs : List Expr} {scope : Scope} {pos : Pos} {it acc : Value} {env : Env} (I : Nat → Shared → Prop)
    (turn : ∀ n s, I n s → wpAny (model prog w) A (pyNext it) (fun r s₁ => match r with
      | none => R (.ok .next) s₁
      | some v => wpAny (model prog w) A (letOwnedTupleGo target it v) (fun _ s₁' => wpAny (model prog w) A (assign target env v) (fun _ s₂ =>
          wpAny (model prog w) A (forIn ifs true fun c r => if r = true then do let ok ← isTrue c env (eval c env); pure (ForInStep.yield ok) else pure (ForInStep.yield r)) (fun ok s₃ =>
            if ok = true then wpAny (model prog w) A (eval elt env) (fun x s₄ =>
              wpAny (model prog w) A (call (.builtin "list.append") [acc, x]) (fun _ s₅ => ∃ m, m < n ∧ I m s₅) (fun _ _ => False) s₄) (fun _ _ => False) s₃
            else ∃ m, m < n ∧ I m s₃) (fun _ _ => False) s₂) (fun _ _ => False) s₁') (fun _ _ => False) s₁) (fun _ _ => False) s)
    (n : Nat) (h : I n s) : codeAny (model prog w) A (.compLoop (.ListComp elt [⟨target, iter, ifs, 0⟩] scope pos) 0 it acc env) R s := by
  refine codeAny_loop rfl I (fun n s hI => ?_) n h
  show wpAny _ A ((compTurn (.ListComp elt [⟨target, iter, ifs, 0⟩] scope pos) 0 it acc env).onRaise (fun x => do noteFrame x env; theTreesLotGoes x)) _ _ s
  refine wpAny_noted ?_
  rw [compTurn_list]
  refine wpAny_bind (wpAny_standAt (wpAny_bind (wpAny_mono (turn n s hI) (fun r s₁ h₁ => ?_) fun _ _ h' => h'.elim)))
  cases r with
  | none => exact wpAny_pure h₁
  | some v =>
    refine wpAny_bind (wpAny_mono h₁ (fun _ s₁' h₁' => ?_) fun _ _ h' => h'.elim)
    refine wpAny_bind (wpAny_mono h₁' (fun _ s₂ h₂ => wpAny_bind (wpAny_mono h₂ (fun ok s₃ h₃ => ?_) fun _ _ h' => h'.elim)) fun _ _ h' => h'.elim)
    cases ok with
    | false => exact wpAny_pure ⟨rfl, h₃⟩
    | true =>
      exact wpAny_bind (wpAny_bind (wpAny_mono h₃ (fun x s₄ h₄ => wpAny_bind (wpAny_mono h₄ (fun _ s₅ h₅ => wpAny_pure (wpAny_pure ⟨rfl, h₅⟩)) fun _ _ h' => h'.elim)) fun _ _ h' => h'.elim))

theorem pe_comp {X : Cx} {elt iter tg : Expr} {ifs : List Expr} {scope : Scope} {pos : Pos} {N : List Str} {k : Nat} {caps : List Nat} {wi : TI} {g : TG} {tc : TT} {te : TE}
    (hc : X.calm = true) (S : CompOk X.N X.env.scope.names N k caps scope) (hi : PI X tg iter wi)
    (hg : ∀ C fp s H, PG (cxComp X N scope C fp s H) tg g) (ht : ∀ C fp s H, PCs (cxComp X N scope C fp s H) ifs tc) (he : ∀ C fp s H, PE (cxComp X N scope C fp s H) elt te)
    (hs : ∀ x, foldedSetIterable iter X.env x = pure x := by intro _; rfl) : PE X (.ListComp elt [⟨tg, iter, ifs, 0⟩] scope pos) (tComp wi k caps g tc te) := by
  intro pins s σ H Q I h
  have hcells : ∀ y ∈ scope.names, y.2 = .free → ∃ c, X.env.cells.lookup y.1 = some c := fun y hy hf => I.ok.has y.1 (S.free y hy hf)
  rw [eval_ListComp]
  refine wpAny_comprehension_free (use := none) rfl hs (closure_ok hcells) S.kind S.loc (thn (hi pins s σ H _ I h) fun v s1 h1 => thn h1 fun itv s2 h2 => ?_)
  obtain ⟨it, fp, tn, J, H2, rfl, I2, T, st2, f2, rd⟩ := h2
  have hD : H2 s2.heap.objs.size = none := I2.fresh
  obtain ⟨W, ⟨m0, w0⟩, turn⟩ := rd s2.heap.objs.size hD
  refine wpAny_newList ?_
  have I3 : Inv X pins σ (upd H2 s2.heap.objs.size (.lst [])) { s2 with heap := s2.heap.push { cls := .type "list", data := .seq ([] : List Value).toArray }, toks := s2.toks } := I2.lnew .nil (Nat.zero_le _)
  refine wpAny_newFunctionEnv S.cell (by intro y hy; simp at hy) (fun h₁ hns₁ hsb₁ => ?_) S.kind
  dsimp only at hns₁ hsb₁ ⊢
  generalize hDa : s2.heap.objs.size = D at *
  generalize hs3 : ({ s2 with heap := s2.heap.push { cls := .type "list", data := .seq ([] : List Value).toArray }, toks := s2.toks } : Shared) = s3 at I3
  have e3 : s3.heap = s2.heap.push { cls := .type "list", data := .seq ([] : List Value).toArray } := by rw [← hs3]
  rw [← e3] at hns₁ hsb₁ ⊢
  generalize hC : s3.heap.objs.size = C at *
  have old : ∀ b o, s3.heap.get? b = some o → h₁.get? b = some o := fun b o e => by
    have hb : b ≠ C := by rw [← hC]; exact Nat.ne_of_lt (Heap.lt_size e)
    exact hsb₁.extBut b o hb (Heap.get?_push_of_some _ e)
  have old2 : ∀ b o, s2.heap.get? b = some o → s3.heap.get? b = some o := fun b o e => by rw [e3]; exact Heap.get?_push_of_some _ e
  have f3 : ∀ b ∈ fp, FpOk X pins (upd H2 D (.lst [])) b := fun b hb => by
    obtain ⟨g0, g1⟩ := f2 b hb
    obtain ⟨o, ho, _⟩ := T.obj _ _ st2 b hb
    have : b ≠ D := by rw [← hDa]; exact Nat.ne_of_lt (Heap.lt_size ho)
    exact ⟨by rw [upd_ne this]; exact g0, g1⟩
  have fpC : ∀ b ∈ fp, b < C := fun b hb => by
    obtain ⟨o, ho, _⟩ := T.obj _ _ st2 b hb
    rw [← hC]
    exact Heap.lt_size (old2 b o ho)
  let Y : Cx := cxComp X N scope C fp s3 (upd H2 D (.lst []))
  have sub : ∀ {x : Str} {c : Addr}, Y.env.cells.lookup x = some c → X.env.cells.lookup x = some c := fun {x c} e => cloOf_sub hcells (fun _ _ z => by simp at z) e
  have YOk : Y.Ok := by
    refine ⟨I.ok.mod, S.kind, I.ok.glob, I.ok.blt, Nat.le_of_eq hC, fun x y c e1 e2 => I.ok.inj x y c (sub e1) (sub e2), fun x hx => ?_, fun x c z _ => by simp [Y, cxComp] at z, I.ok.hd, I.ok.frames, .inl rfl, fun b hb => ⟨Nat.ne_of_lt (fpC b hb), fun x c e => (f3 b hb).2.2.2.2.1 x c (sub e)⟩,
      fun b o e => I3.bs b o e, Nat.le_trans I.ok.bsz I3.sz, fun b o e hb => ?_, fun b hb z => ?_, I3.stack, I3.stkFree⟩
    · have : ∃ k0, scope.names.lookup x = some k0 ∧ (k0 = .free ∨ k0 = .cell) := by
        rcases hx with hx | hx
        · obtain ⟨k0, e0, z⟩ := relabel_kind hx
          rcases z with z | z
          · exact ⟨k0, e0, .inr z.symm⟩
          · exact ⟨k0, e0, .inl z.1⟩
        · obtain ⟨k0, e0, z⟩ := relabel_kind hx
          rcases z with z | z
          · exact ⟨k0, e0, .inl z.symm⟩
          · cases z.2
      obtain ⟨k0, e0, z⟩ := this
      rcases z with z | z
      · subst z; exact cloOf_has e0
      · subst z; exact absurd rfl (S.cell _ (PySem.mem_of_lookup e0))
    · rcases (f3 b hb).2.2.2.1 with z | z
      · exact I.ok.noex b o e z
      · exact absurd (Nat.lt_of_lt_of_le (Nat.lt_of_lt_of_le (Heap.lt_size e) I.ok.bsz) z) (Nat.lt_irrefl _)
    · rcases List.mem_cons.mp (I3.stkSub b z) with q | q
      · exact (f3 b hb).2.1 q
      · exact (f3 b hb).2.2.1 q
  have IY : ∀ tk : Nat, Inv Y [] (List.replicate k none ++ capσ σ caps) (upd H2 D (.lst [])) { s3 with heap := h₁, toks := tk } := fun tk => by
    refine ⟨YOk, rfl, I3.bare, Un.kept old, ⟨_, hns₁, fun i x v e1 e2 e3' => ?_⟩, fun x c e => ?_, I3.hok.fresh (Nat.le_of_eq hC), fun x c e => I3.freeC x c (sub e), fun p hp => absurd (show p ∈ ([] : List (Addr × Obj)) from hp) (by simp), I3.hok.kept old, ?_⟩
    · have hik : k ≤ i := by
        by_cases z : i < k
        · rw [List.getElem?_append_left (by simpa using z), List.getElem?_replicate, if_pos z] at e2
          cases e2
        · omega
      obtain ⟨j, rfl⟩ : ∃ j, i = k + j := ⟨i - k, by omega⟩
      rw [List.getElem?_append_right (by simp)] at e2
      simp only [List.length_replicate, Nat.add_sub_cancel_left] at e2
      have e1' : (N.drop k)[j]? = some x := by rw [List.getElem?_drop]; exact e1
      have e4 : ((N.drop k).map some)[j]? = some (some x) := by rw [List.getElem?_map, e1']; rfl
      rw [S.cap, List.getElem?_map] at e4
      unfold capσ at e2
      rw [List.getElem?_map] at e2
      cases hj : caps[j]? with
      | none => rw [hj] at e4; cases e4
      | some q =>
        rw [hj] at e4 e2
        have e5 : X.N[q]? = some x := Option.some.inj e4
        have e6 : (σ[q]?).join = some v := Option.some.inj e2
        have e7 : σ[q]? = some (some v) := by
          cases z : σ[q]? with
          | none => rw [z] at e6; cases e6
          | some y => rw [z] at e6; simp only [Option.join_some] at e6; rw [e6]
        obtain ⟨k1, k2⟩ := S.fre x (List.mem_of_getElem? e1')
        obtain ⟨m3, hn3, hl3⟩ := I3.loc
        obtain ⟨u, ru, lu⟩ := hl3 q x v e5 e7 (by rcases k2 with z | z; exact .inr (.inl z); exact .inr (.inr z))
        refine ⟨u, ru, .inr ⟨relabel_free k1, ?_⟩⟩
        rcases lu with ⟨z, _⟩ | ⟨_, c, hc1, hc2⟩
        · rcases k2 with z' | z' <;> (have z2 : X.env.scope.names.lookup x = some .local := z; rw [z2] at z'; cases z')
        · obtain ⟨c', hc'⟩ := cloOf_has (env := X.env) (acc := []) k1
          have := cloOf_sub hcells (fun _ _ z => by simp at z) hc'
          rw [hc1] at this; cases this
          obtain ⟨oc, h5, h6⟩ := hc2
          exact ⟨c, hc', oc, old c oc h5, h6⟩
    · obtain ⟨v, oc, h5, h6⟩ := I3.cell x c (sub e)
      exact ⟨v, oc, old c oc h5, h6⟩
    · show _ = N.length
      rw [S.len]; simp [capσ]
  have fpY : ∀ {H' : Hp}, (∀ b ∈ fp, H' b = none) → ∀ b ∈ fp, FpOk Y [] H' b := fun hn b hb => ⟨hn b hb, (YOk.exf b hb).1, YOk.exfs b hb, .inl hb, (YOk.exf b hb).2, fun p hp => absurd (show p ∈ ([] : List (Addr × Obj)) from hp) (by simp)⟩
  have hnD : D ≠ C := by rw [← hC, e3, Heap.size_push, hDa]; exact Nat.ne_of_lt (Nat.lt_succ_self _)
  have loop : ∀ s4 : Shared, Inv Y [] (List.replicate k none ++ capσ σ caps) (upd H2 D (.lst [])) s4 → tn 0 s4.heap →
      codeAny (model X.prog X.w) X.A (.compLoop (.ListComp elt [⟨tg, iter, ifs, 0⟩] scope pos) 0 (.ref it) (.ref D) Y.env) (compPost (model X.prog X.w) X.A X.xe none (EP X pins σ Q) (.ref D) C) s4 := by
    intro s4 I4 st4
    refine compLoop_own (fun n s' => ∃ i σ' H' ys, Inv Y [] σ' H' s' ∧ tn i s'.heap ∧ (∀ b ∈ fp, H' b = none) ∧ H' D = some (.lst ys) ∧ W i n ys σ' H') ?_ m0 ⟨0, _, _, [], I4, st4, fun b hb => (f3 b hb).1, upd_same, w0⟩
    rintro n s5 ⟨i, σ5, H5, ys, I5, st5, fr5, d5, w5⟩
    rcases turn i n ys σ5 H5 w5 d5 with ⟨stop, q⟩ | ⟨go, step⟩
    · refine wpAny_mono (T.done Y rfl rfl rfl hc i [] s5 σ5 H5 (fun _ _ => False) I5 (fpY fr5) st5 stop) (fun r s6 ⟨hr, I6⟩ => ?_) fun _ _ z => z
      subst hr
      obtain ⟨m6, hn6, _⟩ := id I6.loc
      refine ⟨m6, hn6, fun h' hs' => ⟨.ref D, H5, ?_, rfl, q⟩⟩
      have un : Un (frs X.stack) fp (upd H2 D (.lst [])) H5 s3.heap h' := by
        have u := I6.base
        have nc : ∀ b o, s3.heap.get? b = some o → b ≠ C := fun b o e => by rw [← hC]; exact Nat.ne_of_lt (Heap.lt_size e)
        refine ⟨fun b o e n hb hx => (hs'.2 b (nc b o e)).trans (u.keep b o e n hb hx), fun b o e n hb hx => ?_, u.free, fun b o e hx => ?_, u.tups, u.frzs, u.tbls⟩
        · obtain ⟨sl, z⟩ := u.slot b o e n hb hx
          exact ⟨sl, (hs'.2 b (nc b o e)).trans z⟩
        · obtain ⟨o', z⟩ := u.there b o e hx
          exact ⟨o', (hs'.2 b (nc b o e)).trans z⟩
      have hok' : HOk X.prog X.w H5 h' := fun b o e => by
        have fC : H5 C = none := I6.free
        refine (I6.hok b o e).stay (fun c v hc' z => (hs'.2 c ?_).trans z) (fun _ z => z) fun _ _ z => z
        rintro rfl
        rcases hc' with z | z
        · rw [← z, fC] at e; cases e
        · rw [fC] at z; cases z
      refine I3.call' (ch := fp) (s' := { s6 with heap := h' }) I6.os un hok' I6.bare fun b hb => ?_
      obtain ⟨g0, g1, g2, g3, g4, g5⟩ := f3 b hb
      exact ⟨g3, g1, g4, g5⟩
    · refine wpAny_mono (T.item Y rfl rfl rfl hc i [] s5 σ5 H5 (fun _ _ => False) I5 (fpY fr5) st5 go) (fun r s6 ⟨u, hr, h6⟩ => ?_) fun _ _ z => z
      subst hr
      refine wpAny_mono h6 (fun _ s7 ⟨x, H7, I7, r7, y7, st7, fr7⟩ => ?_) fun _ _ z => z
      have I7' := I7.pinned (fpY fr7) (T.obj _ _ st7)
      have back : ∀ {σ8 : St} {H8 : Hp} {s8 : Shared}, Inv Y ([] ++ pinsAt fp s7.heap) σ8 H8 s8 → tn (i + 1) s8.heap ∧ ∀ b ∈ fp, H8 b = none := fun {σ8 H8 s8} I8 => by
        refine ⟨T.keep _ _ _ st7 fun b hb o e => (I8.pin (b, o) (List.mem_append_right _ (List.mem_append_right _ (mem_pinsAt hb e)))).1, fun b hb => ?_⟩
        obtain ⟨o, e, _⟩ := T.obj _ _ st7 b hb
        exact (I8.pin (b, o) (List.mem_append_right _ (List.mem_append_right _ (mem_pinsAt hb e)))).2.1
      refine wpAny_mono (hg C fp s3 _ _ s7 σ5 H7 x u _ I7' r7 (step x H7 y7)) (fun _ s8 ⟨σ8, H8, I8, q8⟩ => ?_) fun _ _ z => z
      refine wpAny_mono (ht C fp s3 _ _ s8 σ8 H8 _ I8 q8) (fun ok s9 ⟨H9, I9, q9⟩ => ?_) fun _ _ z => z
      cases ok with
      | false =>
        rw [if_neg Bool.false_ne_true] at q9 ⊢
        obtain ⟨d9, m', hm, w9⟩ := q9
        exact ⟨m', hm, i + 1, σ8, H9, ys, I9.unpinned, (back I9).1, (back I9).2, d9, w9⟩
      | true =>
        rw [if_pos rfl] at q9 ⊢
        refine wpAny_mono (he C fp s3 _ _ s9 σ8 H9 _ I9 q9) (fun y sA ⟨yv, HA, IA, rA, dA, lA, m', hm, wA⟩ => ?_) fun _ _ z => z
        obtain ⟨z, its, n', rits, hl, e⟩ := IA.lstM dA
        refine call_meets F.slot_list_append ⟨_, e, rfl⟩ F.entry_list_append (F.args_list_append_2 _ _) (PySem.list_append D its.toArray n' y (by rw [List.size_toArray]; omega)) ⟨e, ?_⟩
        have IB := IA.lset (its' := its ++ [y]) (f := fun a => a.push y) (t' := sA.toks) dA e (by simp) (rits.append (.cons rA .nil)) (by rw [List.length_append, List.length_singleton]; omega)
        exact ⟨m', hm, i + 1, σ8, _, ys ++ [yv], IB.unpinned, (back IB).1, (back IB).2, upd_same, wA⟩
  have st3 : tn 0 h₁ := T.keep _ _ _ st2 fun b _ o e => old b o (old2 b o e)
  have I5 := IY (s2.toks + ([] : List (Str × Value)).length)
  have es : ({ s3 with heap := h₁, toks := s2.toks + ([] : List (Str × Value)).length } : Shared) = { s2 with heap := h₁, toks := s2.toks + ([] : List (Str × Value)).length } := by rw [← hs3]
  rw [es] at I5
  refine codeAny_compStart_list ?_ ?_
  · exact loop _ I5 st3
  · exact T.self _ 0 _ _ _ st3 (loop _ I5 st3)
end L2

namespace L2
open PySem PySem.Spec PyProof.Rows
section
variable {X : Cx} {pins : List (Addr × Obj)} {σ : St} {H : Hp} {s : Shared}
theorem tyOf_kit {x : V} {u t : Value} (I : Inv X pins σ H s) (rx : RelV x u) (ty : TyOf X.K H x t) : ∃ HP : Heap → Prop, PySem.W.KitX X.K u t HP ∧ HP s.heap ∧ u ≠ .builtin "__main__.__loader__#opaque" := by
  cases ty with
  | non => cases (show u = Value.none from rx); exact ⟨_, PySem.W.kitx_none, True.intro, fun z => nomatch z⟩
  | bl y => cases (show u = Value.bool y from rx); exact ⟨_, PySem.W.kitx_bool, True.intro, fun z => nomatch z⟩
  | int i => obtain ⟨t, q⟩ := (show ∃ t, u = Value.int i t from rx); cases q; exact ⟨_, PySem.W.kitx_int, True.intro, fun z => nomatch z⟩
  | str y => obtain ⟨t, q⟩ := (show ∃ t, u = Value.str y t from rx); cases q; exact ⟨_, PySem.W.kitx_str, True.intro, fun z => nomatch z⟩
  | flt y => obtain ⟨t, q⟩ := (show ∃ t, u = Value.float y t from rx); cases q; exact ⟨_, PySem.W.kitx_float, True.intro, fun z => nomatch z⟩
  | @lst a xs ea =>
    cases (show u = Value.ref a from rx)
    obtain ⟨_, _, n, _, h1⟩ := (show ObjOk X.prog X.w H s.heap a (.lst xs) from I.hok a _ ea)
    exact ⟨_, PySem.W.kitx_list, ⟨_, h1, rfl⟩, fun z => nomatch z⟩
  | @frz a ob xs ea =>
    cases (show u = Value.ref a from rx)
    obtain ⟨_, _, _, n, _, h1⟩ := (show ObjOk X.prog X.w H s.heap a (.frz ob (.lst xs)) from I.hok a _ ea)
    exact ⟨_, PySem.W.kitx_list, ⟨_, h1, rfl⟩, fun z => nomatch z⟩
  | @tup a xs ea =>
    cases (show u = Value.ref a from rx)
    obtain ⟨_, _, _, p⟩ := (show ObjOk X.prog X.w H s.heap a (.tup xs) from I.hok a _ ea)
    obtain ⟨o, h1, h2, _⟩ := p
    exact ⟨_, PySem.W.kitx_tuple, ⟨o, h1, h2⟩, fun z => nomatch z⟩
  | @dK a kvs ea =>
    cases (show u = Value.ref a from rx)
    obtain ⟨_, _, vs, _, p⟩ := (show ObjOk X.prog X.w H s.heap a (.dK kvs) from I.hok a _ ea)
    obtain ⟨o, es, ep, h1, h2, _⟩ := p
    exact ⟨_, PySem.W.kitx_dict, ⟨o, h1, h2.1⟩, fun z => nomatch z⟩
  | @dT a kvs ea =>
    cases (show u = Value.ref a from rx)
    obtain ⟨_, _, xs, _, o, es, ep, h1, h2, _⟩ := (show ObjOk X.prog X.w H s.heap a (.dT kvs) from I.hok a _ ea)
    exact ⟨_, PySem.W.kitx_dict, ⟨o, h1, h2.1⟩, fun z => nomatch z⟩
  | @ins a C dx fs ea cl ha hn htk hm =>
    cases (show u = Value.ref a from rx)
    obtain ⟨mA, O, _⟩ := ins_get I.hok ea
    obtain ⟨od, J, _⟩ := O.look
    exact ⟨_, PySem.W.kitx_own (cl.get _) cl.hd ha hn htk hm, J, fun z => nomatch z⟩
def rIsI (K : PySem.W.Frag) : List V → Hp → VK → Prop := fun xs H Q => ∃ x y t, xs = [x, y] ∧ TyOf K H x t ∧
  ((∃ n b, y = .ty n ∧ PySem.W.kitOne K t (.type n) = some b ∧ Q (.bl b) H) ∨
   ∃ (p : Addr) (ns : List String) (b : Bool), y = .ref p ∧ H p = some (.tup (ns.map V.ty)) ∧ PySem.W.kitAny K t (ns.map Value.type) = some b ∧ Q (.bl b) H)
theorem vals_ty : ∀ {ns : List String} {us : List Value}, Vals (ns.map V.ty) us → us = ns.map Value.type
  | [], _, .nil => rfl
  | n :: ns, _, .cons r t => by
    cases (show _ = Value.type n from r)
    rw [vals_ty t]; rfl
theorem call_isi : CallR X (.builtin "isinstance") (rIsI X.K) := by
  intro pins s σ H xs us Q I r h
  obtain ⟨x, y, t, rfl, ty, h⟩ := h
  obtain ⟨u, v, rfl, ru, rv⟩ := vals2 r
  obtain ⟨HP, kx, hp, hx⟩ := tyOf_kit I ru ty
  rcases h with ⟨n, b, rfl, e, q⟩ | ⟨p, ns, b, rfl, hH, e, q⟩
  · cases (show v = Value.type n from rv)
    exact PySem.W.kia_one kx I.kIn hp e hx fun tk => ⟨.bl b, H, I.tok tk, rfl, q⟩
  · cases (show v = Value.ref p from rv)
    obtain ⟨_, its, ri, ⟨cls, dd, data, sl⟩, ho, hc, n, hd⟩ := (show ObjOk X.prog X.w H s.heap p (.tup (ns.map V.ty)) from I.hok p _ hH)
    simp only at hc hd
    subst hc hd
    have ei := vals_ty ri
    subst ei
    exact PySem.W.kia_tup kx I.kIn hp ho e hx fun tk => ⟨.bl b, H, I.tok tk, rfl, q⟩

theorem all_get (bs : List Bool) : ((List.range bs.length).all fun j => (bs[j]?).getD true) = bs.all id := by
  have h := all_rangeD bs id
  rw [← h]
  refine congrArg (fun f => (List.range bs.length).all f) (funext fun j => ?_)
  cases bs[j]? <;> rfl
theorem call_allL (hc : X.calm = true) : CallR X (.builtin "all") (fun xs H Q => ∃ (p : Addr) (bs : List Bool), xs = [.ref p] ∧ SqL X.K H p (bs.map V.bl) ∧ Q (.bl (bs.all id)) H) := by
  intro pins s σ H xs us Q I r h
  obtain ⟨p, bs, rfl, hq, q⟩ := h
  obtain ⟨u, rfl, ru⟩ := vals1 r
  cases (show u = Value.ref p from ru)
  obtain ⟨its, rv, pl, hz⟩ := I.list hq
  have hlen : its.length = bs.length := by rw [← rv.length, List.length_map]
  refine call_all_walk (wpAny_pyIter_list pl.isList ?_)
  have hne : p ≠ s.heap.objs.size := Nat.ne_of_lt (by obtain ⟨o, n, e, _⟩ := pl; exact Heap.lt_size e)
  refine ⟨s.heap.objs.size, _, _, _, _, _, fun j => (bs[j]?).getD true, rfl, Walks.list (A := X.A.in1) (I.ok.hd hc) s.heap.objs.size p hne its.toArray, ⟨⟨_, Heap.get?_push_size _ rfl, rfl, rfl⟩, ?_⟩, ?_, fun h' tk hk => ?_⟩
  · obtain ⟨o, n, e, h1, h2, h3⟩ := pl
    exact ⟨o, Heap.get?_push_of_some _ e, h1, n, h3⟩
  · intro i v s2 Q2 E2 hP hQ
    have hP' : its[i]? = some v := by simpa using hP
    cases hb : bs[i]? with
    | none =>
      have : its.length ≤ i := by rw [hlen]; exact List.getElem?_eq_none_iff.mp hb
      rw [List.getElem?_eq_none_iff.mpr this] at hP'; cases hP'
    | some b =>
      obtain ⟨u', hu', ru'⟩ := rv.get (i := i) (x := .bl b) (by rw [List.getElem?_map, hb]; rfl)
      rw [hP'] at hu'; cases hu'
      cases (show v = Value.bool b from ru')
      dsimp only at hQ
      rw [hb] at hQ
      exact wpAny_truthy_bool hQ
  · refine ⟨.bl (bs.all id), H, I.kept (t' := tk) (h' := h') fun b o e => hk b o (by simp; exact Nat.ne_of_lt (Heap.lt_size e)) (Heap.get?_push_of_some _ e), ?_, q⟩
    show Value.bool _ = Value.bool _
    rw [List.size_toArray, hlen, all_get]

theorem call_rangeV : CallR X (.type "range") (fun xs H Q => (∃ a b, xs = [.int a, .int b] ∧ ∀ p, H p = none → Q (.ref p) (upd H p (.rng a b))) ∨ ∃ b, xs = [.int b] ∧ ∀ p, H p = none → Q (.ref p) (upd H p (.rng 0 b))) := by
  intro pins s σ H xs us Q I r h
  rcases h with ⟨a, b, rfl, q⟩ | ⟨b, rfl, q⟩
  · obtain ⟨u, v, rfl, ⟨t, rfl⟩, ⟨t', rfl⟩⟩ := vals2 r
    exact call_range_2 ⟨.ref s.heap.objs.size, _, I.laid (t' := s.toks + 1) (o := .rng a b) (fun b o e => Heap.get?_push_of_some _ e) (Nat.le_refl _) ⟨_, _, _, Heap.get?_push_size _ rfl⟩, rfl, q _ I.fresh⟩
  · obtain ⟨u, rfl, ⟨t, rfl⟩⟩ := vals1 r
    exact call_range_1 ⟨.ref s.heap.objs.size, _, I.laid (t' := s.toks + 1 + 1) (o := .rng 0 b) (fun b o e => Heap.get?_push_of_some _ e) (Nat.le_refl _) ⟨_, _, _, Heap.get?_push_size _ rfl⟩, rfl, q _ I.fresh⟩
def rangeV (lo : Int) (n : Nat) : List V := (List.range n).map fun (i : Nat) => V.int (lo + i)
theorem vals_items {P : Nat → Value → Prop} {g : Nat → V} {acc : Array Value} {n : Nat} (h : ItemsOf P acc n) (hp : ∀ i v, P i v → RelV (g i) v) : Vals ((List.range n).map g) acc.toList := by
  obtain ⟨hn, hi⟩ := h
  have key : ∀ (l : List Value) (k : Nat), (∀ j v, l[j]? = some v → RelV (g (k + j)) v) → Vals ((List.range' k l.length).map g) l := by
    intro l
    induction l with
    | nil => intro k _; exact .nil
    | cons x r ih =>
      intro k hk
      rw [List.length_cons, List.range'_succ, List.map_cons]
      refine .cons (by simpa using hk 0 x rfl) (ih (k + 1) fun j v e => ?_)
      have := hk (j + 1) v (by simpa using e)
      rwa [show k + (j + 1) = k + 1 + j by omega] at this
  have := key acc.toList 0 fun j v e => by rw [Nat.zero_add]; exact hp j v (hi j v (by simpa using e))
  rw [Array.length_toList, hn, ← List.range_eq_range'] at this
  exact this
theorem call_listR (hc : X.calm = true) : CallR X (.type "list") (fun xs H Q => ∃ p lo hi, xs = [.ref p] ∧ H p = some (.rng lo hi) ∧ -(2 ^ 62) ≤ lo ∧ lo < 2 ^ 62 ∧ -(2 ^ 62) ≤ hi ∧ hi < 2 ^ 62 ∧ (hi - lo).toNat ≤ 2 ^ 24 ∧
    ∀ l, H l = none → Q (.ref l) (upd H l (.lst (rangeV lo (hi - lo).toNat)))) := by
  intro pins s σ H xs us Q I r h
  obtain ⟨p, lo, hi, rfl, hH, h1, h2, h3, h4, h5, q⟩ := h
  obtain ⟨u, rfl, ru⟩ := vals1 r
  cases (show u = Value.ref p from ru)
  obtain ⟨t, u, v, e⟩ := (show ObjOk X.prog X.w H s.heap p (.rng lo hi) from I.hok p _ hH)
  refine call_list_range (n := (hi - lo).toNat) (I.ok.hd hc) (show IsRange s.heap p lo hi 1 t u v from e) (small_one h1 h2 h3 h4) (by rw [rangeSize_one]; split <;> omega) h5 fun h' tk acc' c' hk hS hacc => ?_
  refine ⟨.ref s.heap.objs.size, _, I.laid (t' := tk) (h' := h') (o := .lst (rangeV lo (hi - lo).toNat)) hk (Nat.le_refl _) ⟨?_, acc'.toList, c', ?_, by simpa using hS⟩, rfl, q _ I.fresh⟩
  · unfold rangeV; rw [List.length_map, List.length_range]
    exact Nat.le_trans h5 (by rw [sizeLine_eq]; decide)
  · exact vals_items hacc fun i v ⟨t, e⟩ => ⟨t, by rw [e]; simp⟩

theorem call_sortedI : CallR X (.builtin "sorted") (fun xs H Q => ∃ (p : Addr) (ns : List Int), xs = [.ref p] ∧ SqL X.K H p (ns.map V.int) ∧ ns.length < 64 ∧
    ∀ (ns' : List Int) l, ns'.Perm ns → ns'.Pairwise (· ≤ ·) → H l = none → Q (.ref l) (upd H l (.lst (ns'.map V.int)))) := by
  intro pins s σ H xs us Q I r h
  obtain ⟨p, ns, rfl, hq, h64, q⟩ := h
  obtain ⟨u, rfl, ru⟩ := vals1 r
  cases (show u = Value.ref p from ru)
  obtain ⟨its, rv, pl, hz⟩ := I.list hq
  have hlen : its.length = ns.length := by rw [← rv.length, List.length_map]
  refine sorted_ints pl.isList (intsAre_of rv) (by rw [hlen]; exact h64) fun out ns' a1 a2 a3 => ?_
  obtain ⟨c, hc⟩ := sortedAll_at s.heap its out
  have hn : H (s.heap.objs.size + 1) = none := I.hok.fresh (Nat.le_succ _)
  refine ⟨.ref (s.heap.objs.size + 1), _, I.laid (t' := s.toks) (h' := sortedAll s.heap its out) (o := .lst (ns'.map V.int)) (fun b o e => sortedAll_old e) (Nat.le_succ _) ⟨?_, out.toList, c, vals_ints a1, ?_⟩, rfl, q ns' _ a2 a3 hn⟩
  · rw [List.length_map, a2.length_eq]
    exact Nat.le_of_lt (Nat.lt_of_lt_of_le h64 (by rw [sizeLine_eq]; decide))
  · simpa [seqObj] using hc
end
end L2

namespace L2
open PySem PySem.Spec PyProof.Rows
section
variable {prog : Program} {w : World} {A : Around} {R : Result → Shared → Prop} {E : Value → Shared → Prop} {s : Shared}
theorem args_sum2 (a b : Value) : argsOk "sum" ⟨[a, b], []⟩ := by unfold argsOk; kernel_rfl
theorem sub_tup_str : isSubtype (.type "tuple") (.type "str") = pure false := by rw [isSubtype_type]; kernel_rfl
theorem sub_tup_bytes : isSubtype (.type "tuple") (.type "bytes") = pure false := by rw [isSubtype_type]; kernel_rfl
theorem sub_tup_bytearray : isSubtype (.type "tuple") (.type "bytearray") = pure false := by rw [isSubtype_type]; kernel_rfl
theorem cat_tup0 {t b : Addr} {ws : List Value} {Q : Value → Shared → Prop} (ht : IsTup s.heap t #[]) (hb : IsTup s.heap b ws.toArray) (h1 : Q (.ref b) s) : wpAny (model prog w) A (binaryOp .Add (.ref t) (.ref b)) Q E s := by
  obtain ⟨⟨cls, dd, data, sl⟩, ho, hc, n, hd⟩ := id ht
  obtain ⟨⟨cls2, dd2, data2, sl2⟩, ho2, hc2, n2, hd2⟩ := id hb
  simp only at hc hd hc2 hd2
  subst hc hd hc2 hd2
  exact concat_meets ⟨_, ho, rfl⟩ ⟨_, ho2, rfl⟩ noFill_tuple_add seq_tuple_add PySem.F.slot_tuple_add PySem.F.entry_tuple_add (PySem.F.args_tuple_add_2 _ _)
      (tuple_addW0 t b #[] ws.toArray n n2 dd dd2 sl sl2 rfl) ⟨ho, ho2, h1⟩
theorem sum_end {I ax S T : Addr} {items : Array Value} {i c : Nat} (hh : A.handled = none) (hit : s.heap.IsListIter I ax i) (hl : s.heap.IsList ax items) (hx : items[i]? = none) (hS : s.heap.get? S = some { cls := .type "list", dict := none, data := .seq #[.ref T] c, slots := #[] })
    (hR : ∀ h', Heap.ExtBut I s.heap h' → R (.ok (.ret (.ref T))) { s with heap := h' }) : codeAny (model prog w) A (.builtin "sum.loop" ⟨[.ref I, .ref S, rawInt 2, rawInt 0], []⟩) R s := by
  refine codeAny_builtin PySem.F.entry_sum_loop ?_
  rw [Around.under_plainId PySem.F.plain_sum_loop _]
  show wpAny _ A.in1 (seqItems? (.ref S) >>= _) _ _ s
  refine wpAny_bind (wpAny_seqItems hS rfl ?_)
  show wpAny _ A.in1 (tryCatch (pyNext (.ref I)) _ >>= _) _ _ s
  refine wpAny_bind (wpAny_tryCatch (wpAny_pyNext_list_end (A := A.in1) hh hit hl hx fun h' he => ?_))
  exact wpAny_pure (hR h' he)
theorem sum_step {I ax S T t : Addr} {items : Array Value} {ws : List Value} {i c : Nat} (hit : s.heap.IsListIter I ax i) (hl : s.heap.IsList ax items) (hx : items[i]? = some (.ref t)) (hS : s.heap.get? S = some { cls := .type "list", dict := none, data := .seq #[.ref T] c, slots := #[] })
    (hT : IsTup s.heap T #[]) (ht : IsTup s.heap t ws.toArray) (n1 : S ≠ I) (n2 : T ≠ I) (n3 : t ≠ I) (n4 : ax ≠ I) (m1 : ax ≠ S)
    (hR : ∀ h' c', (∀ b o, b ≠ I → b ≠ S → s.heap.get? b = some o → h'.get? b = some o) → h'.IsListIter I ax (i + 1) → h'.IsList ax items → h'.get? S = some { cls := .type "list", dict := none, data := .seq #[.ref t] c', slots := #[] } →
      codeAny (model prog w) A (.builtin "sum.loop" ⟨[.ref I, .ref S, rawInt 2, rawInt 0], []⟩) R { s with heap := h' }) : codeAny (model prog w) A (.builtin "sum.loop" ⟨[.ref I, .ref S, rawInt 2, rawInt 0], []⟩) R s := by
  refine codeAny_builtin PySem.F.entry_sum_loop ?_
  rw [Around.under_plainId PySem.F.plain_sum_loop _]
  show wpAny _ A.in1 (seqItems? (.ref S) >>= _) _ _ s
  refine wpAny_bind (wpAny_seqItems hS rfl ?_)
  show wpAny _ A.in1 (tryCatch (pyNext (.ref I)) _ >>= _) _ _ s
  refine wpAny_bind (wpAny_tryCatch (wpAny_pyNext_list_item hit hl hx fun h1 hit1 hs1 => ?_))
  have up : ∀ b o, b ≠ I → s.heap.get? b = some o → h1.get? b = some o := fun b o hb e => hs1.extBut b o hb e
  have hS1 := up S _ n1 hS
  have hT1 : IsTup h1 T #[] := by obtain ⟨o, e, r⟩ := hT; exact ⟨o, up T o n2 e, r⟩
  have ht1 : IsTup h1 t ws.toArray := by obtain ⟨o, e, r⟩ := ht; exact ⟨o, up t o n3 e, r⟩
  have hl1 : h1.IsList ax items := by obtain ⟨o, e, r⟩ := hl; exact ⟨o, up ax o n4 e, r⟩
  show wpAny _ A.in1 (Sem.attempt (holding [.ref t] (binaryOp .Add (.ref T) (.ref t))) >>= _) _ _ _
  refine wpAny_bind (wpAny_attempt (wpAny_holding (cat_tup0 (s := { s with heap := h1 }) hT1 ht1 ?_)))
  show wpAny _ A.in1 (updateSeq S (fun _ => #[.ref t]) >>= _) _ _ _
  refine wpAny_bind (wpAny_updateSeq hS1 rfl ?_)
  refine wpAny_bind (wpAny_letGo ?_)
  have hS2 := Heap.get?_update_self (Obj.mapSeq (fun _ => #[Value.ref t])) hS1 rfl
  show wpAny _ A.in1 (updateSeq S (fun _ => #[.ref t]) >>= _) _ _ _
  refine wpAny_bind (wpAny_updateSeq hS2 rfl ?_)
  have hS3 := Heap.get?_update_self (Obj.mapSeq (fun _ => #[Value.ref t])) hS2 rfl
  have oth : ∀ b o, b ≠ S → h1.get? b = some o → ((h1.update S (Obj.mapSeq fun _ => #[Value.ref t])).update S (Obj.mapSeq fun _ => #[Value.ref t])).get? b = some o := fun b o hb e =>
    (Heap.get?_update_other _ _ (Ne.symm hb)).trans ((Heap.get?_update_other _ _ (Ne.symm hb)).trans e)
  refine wpAny_pure ⟨plainId_quiet PySem.F.plain_sum_loop _, hR _ _ (fun b o hb hbS e => oth b o hbS (up b o hb e)) ?_ ?_ hS3⟩
  · obtain ⟨o, e, r⟩ := hit1
    exact ⟨o, oth I o (Ne.symm n1) e, r⟩
  · obtain ⟨o, e, r⟩ := hl1
    exact ⟨o, oth ax o m1 e, r⟩
end
section
variable {X : Cx}
theorem call_sumT (hc : X.calm = true) : CallR X (.builtin "sum") (fun xs H Q => ∃ p q, xs = [.ref p, .ref q] ∧ SqT X.K H q [] ∧ ((SqL X.K H p [] ∧ Q (.ref q) H) ∨ ∃ t zs, SqL X.K H p [.ref t] ∧ SqT X.K H t zs ∧ Q (.ref t) H)) := by
  intro pins s σ H xs us Q I r h
  obtain ⟨p, q, rfl, hq, h⟩ := h
  obtain ⟨u, v, rfl, ru, rv⟩ := vals2 r
  cases (show u = Value.ref p from ru)
  cases (show v = Value.ref q from rv)
  obtain ⟨itq, rq, tq, _⟩ := I.tuple hq
  cases rq
  have hsq : ∃ ys, SqL X.K H p ys := by rcases h with ⟨h, _⟩ | ⟨t, zs, h, _⟩ <;> exact ⟨_, h⟩
  obtain ⟨ys, hys⟩ := hsq
  obtain ⟨its, ry, pl, _⟩ := I.list hys
  have hp : p < s.heap.objs.size := by obtain ⟨o, n, e, _⟩ := pl; exact Heap.lt_size e
  have hql : q < s.heap.objs.size := by obtain ⟨o, e, _⟩ := tq; exact Heap.lt_size e
  refine call_function_tree PySem.F.kind_sum PySem.F.plain_sum PySem.F.entry_sum (args_sum2 _ _) ?_
  unfold Builtin.«sum»
  simp only [List.length_cons, List.length_nil]
  rw [if_neg (by decide)]
  refine wpAny_bind (wpAny_of_eq (show Builtin.Builtins.bindParams "sum" ["start"] 0 ⟨[Value.ref q], []⟩ = pure [some (.ref q)] from rfl) ?_)
  refine wpAny_bind (wpAny_pyIter_list pl.isList ?_)
  refine wpAny_bind (wpAny_pure ?_)
  simp only [List.forIn_cons, List.forIn_nil]
  have ty : Shared.TypeIs { s with heap := s.heap.push { cls := .type "list_iterator", data := .fields #[.ref p, .int 0 0] } } (.ref q) "tuple" := by
    obtain ⟨o, e, hc', _⟩ := tq
    exact ⟨o, Heap.get?_push_of_some _ e, hc'⟩
  refine wpAny_bind (wpAny_bind (wpAny_bind (wpAny_isInstance (T := "tuple") (b := false) ty sub_tup_str ?_)))
  simp only [Bool.false_eq_true, if_false]
  refine wpAny_pure (wpAny_bind (wpAny_bind (wpAny_isInstance (T := "tuple") (b := false) ty sub_tup_bytes ?_)))
  simp only [Bool.false_eq_true, if_false]
  refine wpAny_pure (wpAny_bind (wpAny_bind (wpAny_isInstance (T := "tuple") (b := false) ty sub_tup_bytearray ?_)))
  simp only [Bool.false_eq_true, if_false]
  refine wpAny_pure (wpAny_pure ?_)
  refine wpAny_bind (wpAny_newObj_type ?_)
  dsimp only
  generalize hI : s.heap.objs.size = It at *
  have hS' : (s.heap.push { cls := .type "list_iterator", data := .fields #[.ref p, .int 0 0] }).objs.size = It + 1 := by rw [Heap.size_push, hI]
  rw [hS']
  generalize hH : (s.heap.push { cls := .type "list_iterator", data := .fields #[.ref p, .int 0 0] }).push { cls := .type "list", data := .seq ([Value.ref q] : List Value).toArray } = h2
  have old : ∀ b o, s.heap.get? b = some o → h2.get? b = some o := fun b o e => by rw [← hH]; exact Heap.get?_push_of_some _ (Heap.get?_push_of_some _ e)
  have hit : h2.IsListIter It p 0 := by rw [← hH, ← hI]; exact ⟨_, Heap.get?_push_of_some _ (Heap.get?_push_size _ rfl), rfl, rfl⟩
  have hst : h2.get? (It + 1) = some { cls := .type "list", dict := none, data := .seq #[.ref q] 0, slots := #[] } := by rw [← hH, ← hS']; exact Heap.get?_push_size _ rfl
  have hl : h2.IsList p its.toArray := by obtain ⟨o, n, e, a1, a2, a3⟩ := pl; exact ⟨o, old p o e, a1, n, a3⟩
  have hh : X.A.handled = none := I.ok.hd hc
  refine wpAny_pure ⟨plainId_quiet PySem.F.plain_sum_loop _, ?_⟩
  rcases h with ⟨h1, q1⟩ | ⟨t, zs, h1, h2', q1⟩
  · have e := I.list_inj hys h1
    subst e
    cases ry
    refine sum_end (s := { s with heap := h2 }) hh hit hl rfl hst fun h' he => ?_
    refine ⟨.ref q, H, I.kept (t' := s.toks) (h' := h') fun b o e => he b o ?_ (old b o e), rfl, q1⟩
    rw [← hI]; exact Nat.ne_of_lt (Heap.lt_size e)
  · have e := I.list_inj hys h1
    subst e
    obtain ⟨u, rfl, ru⟩ := vals1 ry
    cases (show u = Value.ref t from ru)
    obtain ⟨its2, r2, tt, _⟩ := I.tuple h2'
    have htl : t < s.heap.objs.size := by obtain ⟨o, e, _⟩ := tt; exact Heap.lt_size e
    have nl : ∀ (b : Nat), b < It → b ≠ It ∧ b ≠ It + 1 := fun b hb => ⟨by omega, by omega⟩
    have htl' : (t : Nat) < It := by rw [← hI]; exact htl
    have hT2 : IsTup h2 q #[] := by obtain ⟨o, e, r⟩ := tq; exact ⟨o, old q o e, r⟩
    have ht2 : IsTup h2 t its2.toArray := by obtain ⟨o, e, r⟩ := tt; exact ⟨o, old t o e, r⟩
    refine sum_step (s := { s with heap := h2 }) hit hl rfl hst hT2 ht2 (Nat.succ_ne_self It) (nl q hql).1 (nl t htl').1 (nl p hp).1 (nl p hp).2 fun h3 c' k3 it3 l3 s3 => ?_
    refine sum_end (s := { s with heap := h3 }) hh it3 l3 rfl s3 fun h' he => ?_
    refine ⟨.ref t, H, I.kept (t' := s.toks) (h' := h') fun b o e => he b o ?_ (k3 b o ?_ ?_ (old b o e)), rfl, q1⟩ <;>
    · have z : (b : Nat) < It := by rw [← hI]; exact Heap.lt_size e
      first | exact (nl b z).1 | exact (nl b z).2
end
end L2

namespace L2
open PySem PySem.Spec PyProof.Rows
def KDict (P : Program) (w : World) (K : PySem.W.Frag) (a : Addr) (kvs : List (Key × V)) : Prop :=
  (a == sysModules) = false ∧ ∃ o vs, K.lookup a = some o ∧ o.IsDictOf (mixKind P w) vs ∧ KV kvs vs
section
variable {X : Cx} {x : Str} {p pos apos cpos : Pos} {e : Expr} {ty : TE} {a : Addr} {kvs : List (Key × V)}
theorem pe_globI {i : Int} (h : ∃ t, X.mg x = some (.int i t)) (hg : Gl X x := by rfl) (hd : (x == ("__debug__" : Str)) = false := by decide) : PE X (.Name x pos) (tC (.int i)) := by
  obtain ⟨t, h⟩ := h
  exact pe_glob hg h ⟨t, rfl⟩ hd
theorem pe_ty {n : String} (hv : bootBuiltins x = some (.type n)) (hm : X.mg x = none) (hg : Gl X x := by rfl) (hn : x ≠ "__name__" := by decide) (hd : (x == ("__debug__" : Str)) = false := by decide) : PE X (.Name x pos) (tC (.ty n)) := pe_bltn hg hm hv rfl hn hd
def tKGet (kvs : List (Key × V)) (ty : TE) : TE := fun σ H Q => ty σ H fun y H2 => ∃ k : Key, y = kV k ∧ Q ((valV kvs k).getD .non) H2
theorem pe_kget1 (D : KDict X.prog X.w X.K a kvs) (hg : Gl X x) (hmg : X.mg x = some (.ref a)) (he : PE X e ty) (m : M1 X (.Name x p) "get" apos e cpos) (hd : (x == ("__debug__" : Str)) = false := by decide) :
    PE X (.Call (.Attribute (.Name x p) "get" apos) [e] [] cpos) (tKGet kvs ty) := by
  intro pins s σ H Q I h
  obtain ⟨hs, o, vs, ho, io, rel⟩ := D
  have ho' : PE X (.Name x p) (tC (.ref a)) := pe_glob hg hmg rfl hd
  have dOf : ∀ {s' : Shared} {H' : Hp} {pins' σ'}, Inv X pins' σ' H' s' → s'.heap.DictOf (mixKind X.prog X.w) a vs := fun I' => Heap.dictOf_iff.mpr ⟨o, I'.kIn a o ho, io⟩
  refine wpAny_Call_method m.base m.few m.line PySem.F.plainAttrs_dict PySem.F.slot_dict_get PySem.F.type_dict_get (thn (ho' pins s σ H (fun y H1 => y = .ref a ∧ ty σ H1 fun y H2 => ∃ k : Key, y = kV k ∧ Q ((valV kvs k).getD .non) H2) I ⟨rfl, h⟩) fun u s1 ⟨y, H1, I1, rx, ey, q1⟩ => ?_)
  subst ey
  obtain rfl : u = Value.ref a := rx
  refine ⟨(dOf I1).typeIs, fun b q => by cases q; exact ⟨o, I1.kIn a o ho, io.choose_spec.choose_spec.1.2.1⟩, ?_⟩
  rw [m.trees]
  refine Calls.callWith_builtin rfl (Calls.evalArgs_plain (Calls.spliced_cons (thn (he pins s1 σ H1 _ I1 q1) fun iv s2 ⟨y, H2, I2, ry, k, ek, q2⟩ => Calls.spliced_nil ?_)))
  subst ek
  refine call_meetsIn PySem.F.slot_dict_get (dOf I2).typeIs PySem.F.entry_dict_get (PySem.F.args_dict_get_2 _ _) (meets_dict_get (mixKind X.prog X.w) a (kV_is ry) hs) ⟨_, (dOf I2).mapOf, ⟨_, H2, I2.tok _, ?_, q2⟩⟩
  exact (rel.val k).getD rfl
theorem kdict_mk {P : Program} {w : World} {K : PySem.W.Frag} {a : Addr} (ks : List (Str × Tok × Int × Tok)) {ep : Nat} (hs : (a == sysModules) = false) (l : K.lookup a = some { cls := .type "dict", data := .dict (ks.map fun q => (⟨PyData.keyHash w.params q.1, .str q.1 q.2.1, .int q.2.2.1 q.2.2.2⟩ : DictEntry)).toArray ep })
    (nd : ((ks.map fun q => (Sum.inr q.1 : Key))).Nodup) : KDict P w K a (ks.map fun q => (Sum.inr q.1, .int q.2.2.1)) := by
  refine ⟨hs, _, ks.map fun q => (Sum.inr q.1, .int q.2.2.1 q.2.2.2), l, ⟨_, ep, ⟨rfl, rfl, rfl⟩, rfl, fun e he => ?_, ?_, ?_⟩, ?_⟩
  · simp only [List.mem_toArray, List.mem_map] at he
    obtain ⟨q, _, rfl⟩ := he
    exact ⟨Sum.inr q.1, keyIs_str q.1 q.2.1, rfl⟩
  · rw [List.toList_toArray]
    clear l nd
    induction ks with
    | nil => exact .nil
    | cons q r ih => exact .cons (keyIs_str q.1 q.2.1) rfl ih
  · rw [List.map_map]; exact nd
  · clear l nd
    induction ks with
    | nil => exact .nil
    | cons q r ih => exact .cons ⟨rfl, ⟨_, rfl⟩⟩ ih
end
end L2

namespace L2
open PySem PySem.Spec PyProof.Rows
theorem bt_abs : bootBuiltins "abs" = some (.builtin "abs") := by decide +kernel
theorem bt_all : bootBuiltins "all" = some (.builtin "all") := by decide +kernel
theorem bt_sum : bootBuiltins "sum" = some (.builtin "sum") := by decide +kernel
theorem bt_sorted : bootBuiltins "sorted" = some (.builtin "sorted") := by decide +kernel
theorem bt_isinstance : bootBuiltins "isinstance" = some (.builtin "isinstance") := by decide +kernel
theorem bt_range : bootBuiltins "range" = some (.type "range") := by decide +kernel
theorem bt_list : bootBuiltins "list" = some (.type "list") := by decide +kernel
theorem bt_tuple : bootBuiltins "tuple" = some (.type "tuple") := by decide +kernel
theorem bt_int : bootBuiltins "int" = some (.type "int") := by decide +kernel
theorem bt_bool : bootBuiltins "bool" = some (.type "bool") := by decide +kernel
theorem bt_str : bootBuiltins "str" = some (.type "str") := by decide +kernel

structure FnAt (P : Program) (w : World) (K : PySem.W.Frag) (mg : Str → Option Value) (base : Heap) (x : Str) (k : Nat) (sp : Sp) : Prop where
  ex : ∃ f fd ps, FnOk P w K mg base CX0 k f fd ps sp ∧ Binds K fd ps [] ∧ mg x = some (.ref f) ∧ PySem.W.keepIn K (.ref f) = true
theorem FnAt.mono {P : Program} {w : World} {K : PySem.W.Frag} {mg : Str → Option Value} {base : Heap} {x : Str} {j k : Nat} {sp : Sp} (F : FnAt P w K mg base x j sp) (h : j ≤ k) : FnAt P w K mg base x k sp := by
  obtain ⟨f, fd, ps, a, b, c, d⟩ := F.ex
  exact ⟨f, fd, ps, a.mono h, b, c, d⟩
section
variable {X : Cx} {x : Str} {k : Nat} {sp : Sp} {p pos : Pos} {e : Expr} {es : List Expr} {t : TA}
theorem pe_fn (F : FnAt X.prog X.w X.K X.mg X.base x k sp) (hr : Room k X.A) (ha : PA X (e :: es) t) (hg : Gl X x := by rfl) (hdb : (x == ("__debug__" : Str)) = false := by decide) (he : starEach (e :: es) X.env = (false, eval e X.env) :: starEach es X.env := by rfl)
    (hpl : (backTo pos (starEach es X.env)).any (·.1) = false := by rfl) : PE X (.Call (.Name x p) (e :: es) [] pos) (tCall sp [] E0 t) := by
  obtain ⟨f, fd, ps, a, b, c, d⟩ := F.ex
  exact pe_call (hdb := hdb) (he := he) (hpl := hpl) a hr hg c d b .nil pass0 ha
end

inductive D where
  | non | bl (b : Bool) | int (i : Int) | str (x : Str) | lst (ds : List D) | tup (ds : List D)
def Den (H : Hp) : Nat → D → V → Prop
  | 0, _, _ => False
  | n + 1, d, v => match d with
    | .non => v = .non
    | .bl b => v = .bl b
    | .int i => v = .int i
    | .str x => v = .str x
    | .lst ds => ∃ a xs, v = .ref a ∧ H a = some (.lst xs) ∧ ds.length ≤ 1000 ∧ Paired (Den H n) ds xs
    | .tup ds => ∃ a xs, v = .ref a ∧ H a = some (.tup xs) ∧ ds.length ≤ 1000 ∧ Paired (Den H n) ds xs
theorem Den.mono {H H' : Hp} (s : Same H H') : ∀ {n : Nat} {d : D} {v : V}, Den H n d v → Den H' n d v
  | 0, _, _, h => h
  | n + 1, d, v, h => by
    cases d with
    | lst ds => obtain ⟨a, xs, e, h1, h2, h3⟩ := h; exact ⟨a, xs, e, s _ _ h1, h2, Paired.mapP h3 fun _ _ q => Den.mono s q⟩
    | tup ds => obtain ⟨a, xs, e, h1, h2, h3⟩ := h; exact ⟨a, xs, e, s _ _ h1, h2, Paired.mapP h3 fun _ _ q => Den.mono s q⟩
    | _ => exact h
theorem alloc {H : Hp} {o : HO} {Q : V → Hp → Prop} (h : ∀ p H', H p = none → Same H H' → H' p = some o → Q (.ref p) H') : ∀ p, H p = none → Q (.ref p) (upd H p o) := fun p hp =>
  h p _ hp (fun b ob e => by rw [upd_ne (ne_of_none e hp)]; exact e) upd_same
theorem same_upd {H : Hp} {p : Addr} {o : HO} (hp : H p = none) : Same H (upd H p o) := fun b ob e => by rw [upd_ne (ne_of_none e hp)]; exact e
theorem same_put {H0 H : Hp} {p : Addr} {o : HO} (s : Same H0 H) (hp : H0 p = none) : Same H0 (upd H p o) := fun b ob e => by rw [upd_ne (ne_of_none e hp)]; exact s _ _ e
theorem k1000 : 1000 ≤ sizeLine := by rw [sizeLine_eq]; decide
theorem ifT {c : Prop} [Decidable c] {A B : Prop} (hc : c) (h : A) : if decide c = true then A else B := by rw [if_pos (decide_eq_true hc)]; exact h
theorem ifF {c : Prop} [Decidable c] {A B : Prop} (hc : ¬ c) (h : B) : if decide c = true then A else B := by rw [if_neg (by rw [decide_eq_false hc]; exact Bool.false_ne_true)]; exact h
theorem ifNT {c : Prop} [Decidable c] {A B : Prop} (hc : ¬ c) (h : A) : if (!decide c) = true then A else B := by rw [if_pos (by rw [decide_eq_false hc]; rfl)]; exact h
theorem ifNF {c : Prop} [Decidable c] {A B : Prop} (hc : c) (h : B) : if (!decide c) = true then A else B := by rw [if_neg (by rw [decide_eq_true hc]; exact Bool.false_ne_true)]; exact h
theorem ifB {b : Bool} {A B : Prop} (hb : b = true) (h : A) : if b = true then A else B := by rw [if_pos hb]; exact h
theorem ifBF {b : Bool} {A B : Prop} (hb : b = false) (h : B) : if b = true then A else B := by rw [if_neg (by rw [hb]; exact Bool.false_ne_true)]; exact h
theorem rd_ixT {K : PySem.W.Frag} {H : Hp} {p : Addr} {xs : List V} {i : Int} {v : V} {Q : VK} (h : H p = some (.tup xs)) (e : atI xs i = some v) (q : Q v H) : rIxT K (.ref p) (.int i) H Q := ⟨p, xs, i, v, rfl, rfl, SqT.of h, e, q⟩
theorem rd_ixL {K : PySem.W.Frag} {H : Hp} {p : Addr} {xs : List V} {i : Int} {v : V} {Q : VK} (h : H p = some (.lst xs)) (e : atI xs i = some v) (q : Q v H) : rIxL K (.ref p) (.int i) H Q := ⟨p, xs, i, v, rfl, rfl, SqL.of h, e, q⟩
theorem rd_eq {x y : V} {H : Hp} {Q : VK} (e : scal x y = true) (q : Q (.bl (decide (x = y))) H) : rEq x y H Q := ⟨e, q⟩
theorem rd_ne {x y : V} {H : Hp} {Q : VK} (e : scal x y = true) (q : Q (.bl (!decide (x = y))) H) : rNe x y H Q := ⟨e, q⟩
theorem rd_inT {K : PySem.W.Frag} {x : V} {p : Addr} {xs : List V} {H : Hp} {Q : VK} {neg : Bool} (h : H p = some (.tup xs)) (f : flatV x = true) (g : xs.all flatV = true) (q : Q (.bl (if neg then !inV x xs else inV x xs)) H) : rIn K neg x (.ref p) H Q := ⟨p, xs, rfl, .inr (SqT.of h), f, g, q⟩
theorem rd_inL {K : PySem.W.Frag} {x : V} {p : Addr} {xs : List V} {H : Hp} {Q : VK} {neg : Bool} (h : H p = some (.lst xs)) (f : flatV x = true) (g : xs.all flatV = true) (q : Q (.bl (if neg then !inV x xs else inV x xs)) H) : rIn K neg x (.ref p) H Q := ⟨p, xs, rfl, .inl (SqL.of h), f, g, q⟩
def NewO (n : Nat) (o : HO) (H : Hp) (Q : VK) : Prop := n ≤ sizeLine ∧ ∀ p, H p = none → Q (.ref p) (upd H p o)
section
variable {σ : St} {H : Hp} {Q : VK} {QB : Bool → Hp → Prop} {QA : List V → Hp → Prop} {QO : Option Int → Hp → Prop} {D : Ends} {v x y : V} {i j : Int} {ta tb tc td te : TE} {tt tu : TT} {ts us : TS} {aa : TA} {K : PySem.W.Frag}
theorem fin_dec {c : Prop} [Decidable c] (h : c) (q : Q (.bl true) H) : Q (.bl (decide c)) H := by rw [decide_eq_true h]; exact q
theorem fin_tt {b : Bool} (h : b = true) (q : Q (.bl true) H) : Q (.bl b) H := by rw [h]; exact q
theorem i_C (h : Q v H) : tC v σ H Q := h
theorem i_var {n : Nat} (e : σ[n]? = some (some v)) (h : Q v H) : tVar n σ H Q := ⟨v, e, h⟩
theorem i_op {r : R2} (h : ta σ H fun x H1 => tb σ H1 fun y H2 => r x y H2 Q) : tOp r ta tb σ H Q := h
theorem i_un {r : V → Hp → VK → Prop} (h : ta σ H fun x H1 => r x H1 Q) : tUn r ta σ H Q := h
theorem i_rI0 {g : Int → Int → V} (h : Q (g i j) H) : rI0 g (.int i) (.int j) H Q := ⟨i, j, rfl, rfl, h⟩
theorem i_rI {C : Int → Int → Prop} {g : Int → Int → V} (c : C i j) (h : Q (g i j) H) : rI C g (.int i) (.int j) H Q := ⟨i, j, rfl, rfl, c, h⟩
theorem i_rU {g : Int → V} (h : Q (g i) H) : rU g (.int i) H Q := ⟨i, rfl, h⟩
theorem i_test (h : te σ H fun x H' => ∃ k, x = .bl k ∧ QB k H') : tTest te σ H QB := h
theorem i_tB (h : te σ H fun x H' => ∃ k, x = .bl k ∧ QB k H') : tB te σ H QB := h
theorem i_bl {b : Bool} {P : Bool → Prop} (h : P b) : ∃ k, V.bl b = V.bl k ∧ P k := ⟨b, rfl, h⟩
theorem i_seq (h : ts { D with nx := us D } σ H) : tSeq ts us D σ H := h
theorem i_ifS (h : tt σ H fun b H1 => if b = true then ts D σ H1 else us D σ H1) : tIfS tt ts us D σ H := h
theorem i_next (h : D.nx σ H) : tNext D σ H := h
theorem i_ret (h : te σ H D.rt) : tRet te D σ H := h
theorem i_drop (h : te σ H fun _ H1 => D.nx σ H1) : tDrop te D σ H := h
theorem i_asg {g : TG} (h : te σ H fun x H1 => g x σ H1 D.nx) : tAsg te g D σ H := h
theorem i_gname {n : Nat} {R : St → Hp → Prop} (h : R (σ.set n (some v)) H) : gName n v σ H R := h
theorem i_cons (h : te σ H fun x H1 => aa σ H1 fun xs H2 => QA (x :: xs) H2) : tCons te aa σ H QA := h
theorem i_nil (h : QA [] H) : tNil σ H QA := h
theorem i_call {sp : Sp} {E : XK} (h : aa σ H fun vs H1 => sp vs H1 Q E) : tCall sp [] E aa σ H Q := by
  have e : (fun (vs : List V) H1 => sp (vs ++ []) H1 Q E) = fun vs H1 => sp vs H1 Q E := by funext vs H1; rw [List.append_nil]
  unfold tCall
  rw [e]
  exact h
theorem i_CB {r : List V → Hp → VK → Prop} (h : aa σ H fun vs H1 => r vs H1 Q) : tCB r aa σ H Q := h
theorem i_chain {r r' : R2} (h : ta σ H fun x H1 => tb σ H1 fun y H2 => r x y H2 fun z H3 => ∃ k, z = .bl k ∧ (if k = true then tc σ H3 fun w' H4 => r' y w' H4 Q else Q (.bl false) H3)) : tChain r r' ta tb tc σ H Q := h
theorem i_chain3 {r r' r'' : R2} (h : ta σ H fun x H1 => tb σ H1 fun y H2 => r x y H2 fun z H3 => ∃ k, z = .bl k ∧
  (if k = true then tc σ H3 fun y' H4 => r' y y' H4 fun z' H5 => ∃ k', z' = .bl k' ∧ (if k' = true then td σ H5 fun w' H6 => r'' y' w' H6 Q else Q (.bl false) H5) else Q (.bl false) H3)) : tChain3 r r' r'' ta tb tc td σ H Q := h
theorem i_if (h : tt σ H fun c H1 => if c = true then ta σ H1 Q else tb σ H1 Q) : tIf tt ta tb σ H Q := h
theorem i_and (h : tt σ H fun c H1 => if c = true then tu σ H1 QB else QB false H1) : tAnd tt tu σ H QB := h
theorem i_or (h : tt σ H fun c H1 => if c = true then QB true H1 else tu σ H1 QB) : tOr tt tu σ H QB := h
theorem i_not (h : tt σ H fun c H1 => QB (!c) H1) : tNot tt σ H QB := h
theorem i_andV (h : ta σ H fun x H1 => ∃ c, x = .bl c ∧ if c = true then tb σ H1 Q else Q (.bl false) H1) : tAndV ta tb σ H Q := h
theorem i_orV (h : ta σ H fun x H1 => ∃ c, x = .bl c ∧ if c = true then Q (.bl true) H1 else tb σ H1 Q) : tOrV ta tb σ H Q := h
theorem i_notV (h : ta σ H fun x H1 => ∃ c, x = .bl c ∧ Q (.bl (!c)) H1) : tNotV ta σ H Q := h
theorem i_tup (h : aa σ H fun xs H1 => NewO xs.length (.tup xs) H1 Q) : tTup aa σ H Q := h
theorem i_lst (h : aa σ H fun xs H1 => NewO xs.length (.lst xs) H1 Q) : tLst aa σ H Q := h
theorem i_new {n : Nat} {o : HO} (c : n ≤ sizeLine) (h : ∀ p H', H p = none → Same H H' → H' p = some o → Q (.ref p) H') : NewO n o H Q := ⟨c, alloc h⟩
theorem i_sl {r : V → Option Int → Option Int → Hp → VK → Prop} {tl th : TO} (h : te σ H fun x H1 => tl σ H1 fun l H2 => th σ H2 fun u H3 => r x l u H3 Q) : tSl r te tl th σ H Q := h
theorem i_nopart (h : QO none H) : tNoPart σ H QO := h
theorem i_part (h : te σ H fun x H1 => ∃ i, x = .int i ∧ QO (some i) H1) : tPart te σ H QO := h
theorem i_int {P : Int → Prop} (h : P i) : ∃ k, V.int i = V.int k ∧ P k := ⟨i, rfl, h⟩
theorem i_abs {P : Int → Prop} (h : P i) : ∃ k, ([V.int i] : List V) = [V.int k] ∧ P k := ⟨i, rfl, h⟩
theorem i_slL {p : Addr} {xs : List V} {lo hi : Option Int} (h : H p = some (.lst xs)) (q : ∀ l H', H l = none → Same H H' → H' l = some (.lst (cutV xs lo hi)) → Q (.ref l) H') : rSlL K (.ref p) lo hi H Q := ⟨p, xs, rfl, SqL.of h, alloc q⟩
theorem i_bm {T : String} {r : V → List V → Hp → VK → Prop} (h : te σ H fun x H1 => tyV K T x H1 ∧ aa σ H1 fun xs H2 => r x xs H2 Q) : tBM K T r te aa σ H Q := h
theorem i_tyL {p : Addr} {xs : List V} {R : Prop} (h : H p = some (.lst xs)) (q : R) : tyV K "list" (.ref p) H ∧ R := ⟨.inl ⟨rfl, _, SqL.of h⟩, q⟩
theorem i_app2 {p : Addr} {xs : List V} {w : V} (e : H p = some (.lst xs)) (l : xs.length < sizeLine) (q : ∀ H', H' p = some (.lst (xs ++ [w])) → (∀ b o, b ≠ p → H b = some o → H' b = some o) → Q .non H') : rAppend (.ref p) [w] H Q :=
  ⟨p, xs, w, rfl, rfl, e, l, q _ upd_same fun b o hb h => by rw [upd_ne hb]; exact h⟩
theorem i_kget {kvs : List (Key × V)} (h : te σ H fun y H2 => ∃ k : Key, y = kV k ∧ Q ((valV kvs k).getD .non) H2) : tKGet kvs te σ H Q := h
theorem i_keyS {x : Str} {P : Key → Prop} (h : P (Sum.inr x)) : ∃ k : Key, V.str x = kV k ∧ P k := ⟨Sum.inr x, rfl, h⟩






def rLen (K : PySem.W.Frag) : List V → Hp → VK → Prop := fun xs H Q => ∃ p ys, xs = [.ref p] ∧ (SqL K H p ys ∨ SqT K H p ys) ∧ Q (.int ys.length) H
theorem cl_len {X : Cx} : CallR X (.builtin "len") (rLen X.K) := call_len_seq
theorem i_len {p : Addr} {ys : List V} (h : SqL K H p ys ∨ SqT K H p ys) (q : Q (.int ys.length) H) : rLen K [.ref p] H Q := ⟨p, ys, rfl, h, q⟩
def rRng : List V → Hp → VK → Prop := fun xs H Q => (∃ a b, xs = [.int a, .int b] ∧ ∀ p, H p = none → Q (.ref p) (upd H p (.rng a b))) ∨ ∃ b, xs = [.int b] ∧ ∀ p, H p = none → Q (.ref p) (upd H p (.rng 0 b))
theorem cl_rng {X : Cx} : CallR X (.type "range") rRng := call_rangeV
theorem i_rng2 {a b : Int} (q : ∀ p H', H p = none → Same H H' → H' p = some (.rng a b) → Q (.ref p) H') : rRng [.int a, .int b] H Q := .inl ⟨a, b, rfl, alloc q⟩
theorem i_rng1 {b : Int} (q : ∀ p H', H p = none → Same H H' → H' p = some (.rng 0 b) → Q (.ref p) H') : rRng [.int b] H Q := .inr ⟨b, rfl, alloc q⟩
def rListR : List V → Hp → VK → Prop := fun xs H Q => ∃ p lo hi, xs = [.ref p] ∧ H p = some (.rng lo hi) ∧ -(2 ^ 62) ≤ lo ∧ lo < 2 ^ 62 ∧ -(2 ^ 62) ≤ hi ∧ hi < 2 ^ 62 ∧ (hi - lo).toNat ≤ 2 ^ 24 ∧ ∀ l, H l = none → Q (.ref l) (upd H l (.lst (rangeV lo (hi - lo).toNat)))
theorem cl_listR {X : Cx} (hc : X.calm = true) : CallR X (.type "list") rListR := call_listR hc
theorem i_listR {p : Addr} {lo hi : Int} (h : H p = some (.rng lo hi)) (c : -(2 ^ 62) ≤ lo ∧ lo < 2 ^ 62 ∧ -(2 ^ 62) ≤ hi ∧ hi < 2 ^ 62 ∧ (hi - lo).toNat ≤ 2 ^ 24) (q : ∀ l H', H l = none → Same H H' → H' l = some (.lst (rangeV lo (hi - lo).toNat)) → Q (.ref l) H') : rListR [.ref p] H Q :=
  ⟨p, lo, hi, rfl, h, c.1, c.2.1, c.2.2.1, c.2.2.2.1, c.2.2.2.2, alloc q⟩
def rListL (K : PySem.W.Frag) : List V → Hp → VK → Prop := fun xs H Q => ∃ p ys, xs = [.ref p] ∧ (SqL K H p ys ∨ SqT K H p ys) ∧ ∀ l, H l = none → Q (.ref l) (upd H l (.lst ys))
theorem cl_listL {X : Cx} : CallR X (.type "list") (rListL X.K) := call_list_of
theorem i_listL {p : Addr} {ys : List V} (h : SqL K H p ys ∨ SqT K H p ys) (q : ∀ l H', H l = none → Same H H' → H' l = some (.lst ys) → Q (.ref l) H') : rListL K [.ref p] H Q := ⟨p, ys, rfl, h, alloc q⟩
def rSort (K : PySem.W.Frag) : List V → Hp → VK → Prop := fun xs H Q => ∃ (p : Addr) (ns : List Int), xs = [.ref p] ∧ SqL K H p (ns.map V.int) ∧ ns.length < 64 ∧ ∀ (ns' : List Int) l, ns'.Perm ns → ns'.Pairwise (· ≤ ·) → H l = none → Q (.ref l) (upd H l (.lst (ns'.map V.int)))
theorem cl_sort {X : Cx} : CallR X (.builtin "sorted") (rSort X.K) := call_sortedI
theorem i_sort {p : Addr} (ns : List Int) (h : H p = some (.lst (ns.map V.int))) (c : ns.length < 64) (q : ∀ (ns' : List Int) l H', ns'.Perm ns → ns'.Pairwise (· ≤ ·) → H l = none → Same H H' → H' l = some (.lst (ns'.map V.int)) → Q (.ref l) H') : rSort K [.ref p] H Q :=
  ⟨p, ns, rfl, SqL.of h, c, fun ns' l h1 h2 h3 => q ns' l _ h1 h2 h3 (same_upd h3) upd_same⟩
def rAll (K : PySem.W.Frag) : List V → Hp → VK → Prop := fun xs H Q => ∃ (p : Addr) (bs : List Bool), xs = [.ref p] ∧ SqL K H p (bs.map V.bl) ∧ Q (.bl (bs.all id)) H
theorem cl_all {X : Cx} (hc : X.calm = true) : CallR X (.builtin "all") (rAll X.K) := call_allL hc
def rSumT (K : PySem.W.Frag) : List V → Hp → VK → Prop := fun xs H Q => ∃ p q, xs = [.ref p, .ref q] ∧ SqT K H q [] ∧ ((SqL K H p [] ∧ Q (.ref q) H) ∨ ∃ t zs, SqL K H p [.ref t] ∧ SqT K H t zs ∧ Q (.ref t) H)
theorem cl_sumT {X : Cx} (hc : X.calm = true) : CallR X (.builtin "sum") (rSumT X.K) := call_sumT hc
theorem i_sum0 {p q : Addr} (h1 : H p = some (.lst [])) (h2 : H q = some (.tup [])) (k : Q (.ref q) H) : rSumT K [.ref p, .ref q] H Q := ⟨p, q, rfl, SqT.of h2, .inl ⟨SqL.of h1, k⟩⟩
theorem i_sum1 {p q t : Addr} {zs : List V} (h1 : H p = some (.lst [.ref t])) (h2 : H q = some (.tup [])) (h3 : H t = some (.tup zs)) (k : Q (.ref t) H) : rSumT K [.ref p, .ref q] H Q := ⟨p, q, rfl, SqT.of h2, .inr ⟨t, zs, SqL.of h1, SqT.of h3, k⟩⟩
theorem i_truT {p : Addr} {xs : List V} {P : Bool → Prop} (h : H p = some (.tup xs)) (q : P (!xs.isEmpty)) : ∃ k, TruV K (.ref p) H k ∧ P k := ⟨_, .inr (.inl ⟨xs, SqT.of h, rfl⟩), q⟩
theorem i_truL {p : Addr} {xs : List V} {P : Bool → Prop} (h : H p = some (.lst xs)) (q : P (!xs.isEmpty)) : ∃ k, TruV K (.ref p) H k ∧ P k := ⟨_, .inl ⟨xs, SqL.of h, rfl⟩, q⟩
theorem i_cat {l b : Addr} {xs zs : List V} (h1 : H l = some (.lst xs)) (h2 : H b = some (.lst zs)) (h3 : xs.length + zs.length ≤ sizeLine) (q : ∀ p H', H p = none → Same H H' → H' p = some (.lst (xs ++ zs)) → Q (.ref p) H') : rCat (.ref l) (.ref b) H Q := ⟨l, b, xs, zs, rfl, rfl, h1, h2, h3, alloc q⟩
theorem i_isN (q : Q (.bl (decide (x = .non))) H) : (fun x y H Q => y = V.non ∧ Q (.bl (decide (x = .non))) H : R2) x .non H Q := ⟨rfl, q⟩
end
def ForJ (J : It) (g : TG) (tb : TS) (D : Ends) (σ : St) (H : Hp) : Prop := ∃ W : Nat → Nat → St → Hp → Prop, (∃ m, W 0 m σ H) ∧ ∀ i m σ H, W i m σ H →
  (J.stop i H ∧ D.nx σ H) ∨ (J.go i H ∧ ∃ N : St → Hp → Prop, (∀ σ' H', N σ' H' → ∃ m', m' < m ∧ W (i + 1) m' σ' H') ∧ ∀ x H', J.yld i H x H' → g x σ H' fun σ2 H2 => tb { D with nx := N, ct := N, bk := D.nx } σ2 H2)
section
variable {σ : St} {H : Hp} {Q : VK} {D : Ends} {g : TG} {tb : TS} {te : TE} {aa : TA} {K : PySem.W.Frag}
theorem i_forL (h : te σ H fun x H1 => ∃ a, x = .ref a ∧ (∃ xs, SqL K H1 a xs) ∧ ForJ (Itl K a) g tb D σ H1) : tFor (iList K te) g tb D σ H := h
theorem i_for1 (h : aa σ H fun vs H1 => ∃ j : Int, vs = [.int j] ∧ -(2 ^ 62) ≤ j ∧ j < 2 ^ 62 ∧ ForJ (Itr 0 j.toNat) g tb D σ H1) : tFor (iRng1 aa) g tb D σ H := h
theorem i_slS {p : Addr} {xs : List V} {lo hi : Option Int} (h : SqL K H p xs) (q : ∀ l H', H l = none → Same H H' → H' l = some (.lst (cutV xs lo hi)) → Q (.ref l) H') : rSlL K (.ref p) lo hi H Q := ⟨p, xs, rfl, h, alloc q⟩
theorem for_l {a : Addr} {xs : List V} (Pv : Nat → St → Hp → Prop) (h0 : Pv 0 σ H) (hl : ∀ i σ H, i ≤ xs.length → Pv i σ H → SqL K H a xs)
    (hs : ∀ i x σ H, xs[i]? = some x → Pv i σ H → g x σ H fun σ2 H2 => tb { D with nx := Pv (i + 1), ct := Pv (i + 1), bk := D.nx } σ2 H2) (hd : ∀ σ H, Pv xs.length σ H → D.nx σ H) : ForJ (Itl K a) g tb D σ H := for_list Pv h0 hl hs hd
theorem for_r {lo : Int} {n : Nat} (Pv : Nat → St → Hp → Prop) (h0 : Pv 0 σ H)
    (hs : ∀ i σ H, i < n → Pv i σ H → g (.int (lo + i)) σ H fun σ2 H2 => tb { D with nx := Pv (i + 1), ct := Pv (i + 1), bk := D.nx } σ2 H2) (hd : ∀ σ H, Pv n σ H → D.nx σ H) : ForJ (Itr lo n) g tb D σ H := for_range Pv h0 hs hd
end
theorem cmulL {i j : Int} (h1 : -(2 ^ 64) < i) (h2 : i < 2 ^ 64) : CMul i j := .inl ⟨h1, h2⟩
theorem cmulR {i j : Int} (h1 : -(2 ^ 64) < j) (h2 : j < 2 ^ 64) : CMul i j := .inr ⟨h1, h2⟩
end L2

namespace L2
open PySem PySem.Spec PyProof.Rows
def CompJ (J : It) (k : Nat) (caps : List Nat) (g : TG) (tc : TT) (te : TE) (σ : St) (Q : VK) (H1 : Hp) : Prop := ∀ D, H1 D = none →
  ∃ W : Nat → Nat → List V → St → Hp → Prop, (∃ m, W 0 m [] (List.replicate k none ++ capσ σ caps) (upd H1 D (.lst []))) ∧
    ∀ i m ys σ' H', W i m ys σ' H' → H' D = some (.lst ys) →
      (J.stop i H' ∧ Q (.ref D) H') ∨ (J.go i H' ∧ ∀ x H2, J.yld i H' x H2 → g x σ' H2 fun σ3 H3 => tc σ3 H3 fun b H4 =>
        if b = true then te σ3 H4 fun y H5 => H5 D = some (.lst ys) ∧ ys.length < sizeLine ∧ ∃ m', m' < m ∧ W (i + 1) m' (ys ++ [y]) σ3 (upd H5 D (.lst (ys ++ [y])))
        else H4 D = some (.lst ys) ∧ ∃ m', m' < m ∧ W (i + 1) m' ys σ3 H4)
section
variable {σ : St} {H : Hp} {Q : VK} {g : TG} {tc : TT} {te tl : TE} {aa : TA} {K : PySem.W.Frag} {k : Nat} {caps : List Nat}
def Yield (D : Addr) (n i : Nat) (ys : List V) (Pv : Nat → List V → St → Hp → Prop) (σ3 : St) : VK := fun y H5 => H5 D = some (.lst ys) ∧ ys.length < sizeLine ∧ ∃ m', m' < n - i ∧ (m' = n - (i + 1) ∧ i + 1 ≤ n ∧ Pv (i + 1) (ys ++ [y]) σ3 (upd H5 D (.lst (ys ++ [y]))))
theorem yield_ok {D : Addr} {n i : Nat} {ys : List V} {Pv : Nat → List V → St → Hp → Prop} {σ3 : St} {y : V} {H5 : Hp} (h : H5 D = some (.lst ys)) (l : ys.length < sizeLine) (hi : i < n) (q : Pv (i + 1) (ys ++ [y]) σ3 (upd H5 D (.lst (ys ++ [y])))) : Yield D n i ys Pv σ3 y H5 :=
  ⟨h, l, n - (i + 1), by omega, rfl, hi, q⟩
theorem comp_r {lo : Int} {n : Nat} (h : ∀ D, H D = none → ∃ Pv : Nat → List V → St → Hp → Prop, Pv 0 [] (List.replicate k none ++ capσ σ caps) (upd H D (.lst [])) ∧
      (∀ i ys σ' H', i < n → Pv i ys σ' H' → H' D = some (.lst ys) → g (.int (lo + i)) σ' H' fun σ3 H3 => tc σ3 H3 fun b H4 => if b = true then te σ3 H4 (Yield D n i ys Pv σ3) else H4 D = some (.lst ys) ∧ ∃ m', m' < n - i ∧ (m' = n - (i + 1) ∧ i + 1 ≤ n ∧ Pv (i + 1) ys σ3 H4)) ∧
      ∀ ys σ' H', Pv n ys σ' H' → H' D = some (.lst ys) → Q (.ref D) H') : CompJ (Itr lo n) k caps g tc te σ Q H := by
  intro D hD
  obtain ⟨Pv, h0, hs, hd⟩ := h D hD
  refine ⟨fun i m ys σ' H' => m = n - i ∧ i ≤ n ∧ Pv i ys σ' H', ⟨n, by simp, Nat.zero_le _, h0⟩, ?_⟩
  rintro i m ys σ' H' ⟨rfl, hi, p⟩ hl
  by_cases hlt : i < n
  · refine .inr ⟨hlt, fun x H2 y => ?_⟩
    obtain ⟨e, y⟩ := y
    subst e y
    exact hs i ys σ' _ hlt p hl
  · have e : i = n := by omega
    subst e
    exact .inl ⟨Nat.le_refl _, hd ys σ' H' p hl⟩
theorem i_comp1 (h : aa σ H fun vs H1 => ∃ j : Int, vs = [.int j] ∧ -(2 ^ 62) ≤ j ∧ j < 2 ^ 62 ∧ CompJ (Itr 0 j.toNat) k caps g tc te σ Q H1) : tComp (iRng1 aa) k caps g tc te σ H Q := h
theorem i_comp2 (h : aa σ H fun vs H1 => ∃ i j : Int, vs = [.int i, .int j] ∧ (-(2 ^ 62) ≤ i ∧ i < 2 ^ 62 ∧ -(2 ^ 62) ≤ j ∧ j < 2 ^ 62) ∧ CompJ (Itr i (j - i).toNat) k caps g tc te σ Q H1) : tComp (iRng2 aa) k caps g tc te σ H Q := h
theorem i_yes {QB : Bool → Hp → Prop} (h : QB true H) : tYes σ H QB := h
theorem i_isi1 {x : V} {t : Value} {n : String} {b : Bool} (ty : TyOf K H x t) (e : PySem.W.kitOne K t (.type n) = some b) (q : Q (.bl b) H) : rIsI K [x, .ty n] H Q := ⟨x, .ty n, t, rfl, ty, .inl ⟨n, b, rfl, e, q⟩⟩
theorem i_isi2 {x : V} {t : Value} {p : Addr} (ns : List String) {b : Bool} (ty : TyOf K H x t) (h : H p = some (.tup (ns.map V.ty))) (e : PySem.W.kitAny K t (ns.map Value.type) = some b) (q : Q (.bl b) H) : rIsI K [x, .ref p] H Q := ⟨x, .ref p, t, rfl, ty, .inr ⟨p, ns, b, rfl, h, e, q⟩⟩
theorem i_all {p : Addr} (bs : List Bool) (h : H p = some (.lst (bs.map V.bl))) (q : Q (.bl (bs.all id)) H) : rAll K [.ref p] H Q := ⟨p, bs, rfl, SqL.of h, q⟩
theorem i_ixSeqL {p : Addr} {xs : List V} {i : Int} {v : V} (h : H p = some (.lst xs)) (e : atI xs i = some v) (q : Q v H) : rIx K (.ref p) (.int i) H Q := .inl ⟨p, xs, i, v, rfl, rfl, SqL.of h, e, q⟩
theorem i_ixSeqT {p : Addr} {xs : List V} {i : Int} {v : V} (h : H p = some (.tup xs)) (e : atI xs i = some v) (q : Q v H) : rIx K (.ref p) (.int i) H Q := .inr (.inl ⟨p, xs, i, v, rfl, rfl, SqT.of h, e, q⟩)
theorem paired_at {α β : Type} {F : α → β → Prop} : ∀ {l₁ : List α} {l₂ : List β} {i : Nat}, Paired F l₁ l₂ → i < l₁.length → ∃ a b, l₁[i]? = some a ∧ l₂[i]? = some b ∧ F a b
  | _, _, i, .nil, h => by simp at h
  | _, _, 0, .cons r _, _ => ⟨_, _, rfl, rfl, r⟩
  | _, _, i + 1, .cons _ t, h => by
    obtain ⟨a, b, h1, h2, h3⟩ := paired_at (i := i) t (by simpa using h)
    exact ⟨a, b, by simpa using h1, by simpa using h2, h3⟩
end
theorem i_eqr {x : V} {R : Prop} (q : R) : x = x ∧ R := ⟨rfl, q⟩
theorem kIx {X : Cx} {K : PySem.W.Frag} {r : PySem.W.Frag → R2} (f : IxR X (r X.K)) (h : X.K = K) : IxR X (r K) := h ▸ f
theorem kOp {X : Cx} {K : PySem.W.Frag} {r : PySem.W.Frag → R2} {op : Value → Value → Sem Value} (f : OpR X op (r X.K)) (h : X.K = K) : OpR X op (r K) := h ▸ f
theorem kSl {X : Cx} {K : PySem.W.Frag} {r : PySem.W.Frag → V → Option Int → Option Int → Hp → VK → Prop} (f : SlR X (r X.K)) (h : X.K = K) : SlR X (r K) := h ▸ f
def compChk (NX : List Str) (nx : List (Str × NameKind)) (N : List Str) (k : Nat) (caps : List Nat) (sc : Scope) : Bool :=
  sc.kind == .function && decide (N.length = k + caps.length) && decide ((N.drop k).map some = caps.map (NX[·]?)) &&
  (N.drop k).all (fun x => sc.names.lookup x == some .free && (nx.lookup x == some .cell || nx.lookup x == some .free)) &&
  sc.names.all (fun y => y.2 != .cell && (y.2 != .local || sc.names.lookup y.1 == some .local) && (y.2 != .free || (nx.lookup y.1 == some .cell || nx.lookup y.1 == some .free)))
theorem compOk_of (NX : List Str) (nx : List (Str × NameKind)) {N : List Str} {k : Nat} {caps : List Nat} {sc : Scope} (h : compChk NX nx N k caps sc = true) : CompOk NX nx N k caps sc := by
  unfold compChk at h
  simp only [Bool.and_eq_true, List.all_eq_true, Bool.or_eq_true, decide_eq_true_eq, beq_iff_eq, bne_iff_ne, ne_eq] at h
  obtain ⟨⟨⟨⟨h1, h2⟩, h3⟩, h4⟩, h5⟩ := h
  exact ⟨h1, h2, h3, fun x hx => h4 x hx, fun y hy => (h5 y hy).1.1, fun y hy e => (h5 y hy).1.2.resolve_left (fun z => z e), fun y hy e => (h5 y hy).2.resolve_left (fun z => z e)⟩
end L2

namespace L2
open PySem PySem.Spec PyProof.Rows
section
variable {X : Cx}
def rEqL (K : PySem.W.Frag) (neg : Bool) : R2 := fun x y H Q => ∃ (a b : Addr) (ns ms : List Int), x = .ref a ∧ y = .ref b ∧ SqL K H a (ns.map V.int) ∧ SqL K H b (ms.map V.int) ∧ Q (.bl (if neg then !decide (ns = ms) else decide (ns = ms))) H
theorem op_neL (hu : X.A.units + 64 < cLine) : OpR X (compareOp .NotEq) (rEqL X.K true) := by
  intro pins s σ H x y v u Q I rx ry h
  obtain ⟨a, b, ns, ms, rfl, rfl, h1, h2, q⟩ := h
  cases rx
  cases ry
  obtain ⟨i1, r1, p1, _⟩ := I.list h1
  obtain ⟨i2, r2, p2, _⟩ := I.list h2
  exact PySem.W.ke_ne_ints p1.isList p2.isList (intsAre_of r1) (intsAre_of r2) hu ⟨.bl _, H, I, rfl, q⟩
def Its (lo st : Int) (n : Nat) : It := ⟨fun i _ => i < n, fun i H x H' => H' = H ∧ x = .int (lo + i * st), fun i _ => n ≤ i⟩
theorem turn_step {P : Program} {w : World} {K : PySem.W.Frag} {tg : Expr} (it : Addr) (lo st : Int) (n : Nat) : Turn P w K tg (Its lo st n) [it] it (fun i h => IsRangeIter h it (lo + (i : Nat) * st) ((n : Int) - (i : Nat)) st) where
  mem := by simp
  obj := fun i h st b hb => by
    have e : b = it := by simpa using hb
    subst e
    exact ⟨_, st, fun v z => by
      have z' : Data.fields _ = Data.cell v := z
      cases z'⟩
  keep := fun i h h' st k => k it (by simp) _ st
  item := by
    intro X hP hw hK hc i pins s σ H E I hf st' hg
    subst hP hw hK
    obtain ⟨f0, f1, f2, f3, f4, f5⟩ := hf it (by simp)
    have W := Walks.range (prog := X.prog) (w := X.w) (I.ok.hd hc) it lo st n
    refine W.item i s _ _ hg st' fun v h' tk hv st'' kk => ?_
    obtain ⟨t, rfl⟩ := hv
    have I1 : Inv X pins σ H { s with heap := h', toks := tk } := I.turned (fun b o hb e => kk b o (by simpa using hb) e) f0 f1 f3 f4 f5
    exact ⟨_, rfl, go_of (s := { s with heap := h', toks := tk }) (n := "range_iterator") st'' rfl rfl (by decide) ⟨.int (lo + i * st), H, I1, ⟨t, rfl⟩, ⟨rfl, rfl⟩, st'', fun b hb => (hf b hb).1⟩⟩
  done := by
    intro X hP hw hK hc i pins s σ H E I hf st' hg
    subst hP hw hK
    obtain ⟨f0, f1, f2, f3, f4, f5⟩ := hf it (by simp)
    exact wpAny_pyNext_range_end (I.ok.hd hc) st' (by have : n ≤ i := hg; omega) fun h' eb => ⟨rfl, I.turned (t' := s.toks) (fun b o hb e => eb b o hb e) f0 f1 f3 f4 f5⟩
  self := fun _ _ _ _ _ st h => wpAny_pyIter_rangeiter st h
end
section
variable {X : Cx} {tg : Expr}
def iRng3 (ta : TA) : TI := fun σ H R => ta σ H fun vs H1 => ∃ i j k : Int, vs = [.int i, .int j, .int k] ∧ k ≠ 0 ∧ (j - i).natAbs < 1000000 ∧ k.natAbs < 1000 ∧ Builtin.Range.small i j k = true ∧ R (Its i k (Builtin.Range.rangeSize i j k).toNat) H1
theorem pi_range3 {a b c : Expr} {ta : TA} {p pos : Pos} (hg : Gl X "range") (hm : X.mg "range" = none) (ha : PA X [a, b, c] ta)
    (hs : starEach [a, b, c] X.env = [(false, eval a X.env), (false, eval b X.env), (false, eval c X.env)] := by rfl) (hs2 : starEach [b, c] X.env = [(false, eval b X.env), (false, eval c X.env)] := by rfl) :
    PI X tg (.Call (.Name "range" p) [a, b, c] [] pos) (iRng3 ta) := by
  intro pins s σ H R I h
  refine Call_ (ld_blt I hg hm bt_range (PyProof.Rows.callWith_type1 (thn (ha pos pins s σ H _ I h) fun us s1 ⟨vs, H1, I1, r1, q1⟩ => ?_) (by rw [hs, hs2]) (by rw [hs2]; rfl)))
  obtain ⟨i, j, k, e, hk, hd, hk2, hsm, q⟩ := q1
  subst e
  cases r1 with
  | cons r rr =>
    cases rr with
    | cons r' rr =>
      cases rr with
      | cons r'' rr =>
        cases rr
        obtain ⟨t, rfl⟩ := r
        obtain ⟨t', rfl⟩ := r'
        obtain ⟨t'', rfl⟩ := r''
        refine call_range_3 hk ?_ (Or.inl (PyProof.noPylong_small (by omega)))
        refine wpAny_pyIter_range (IsRange.new ..) hsm ?_
        have I2 : Inv X pins σ H1 { s1 with heap := s1.heap.push { cls := .type "range", data := .fields #[.int i t, .int j t', .int k t''] }, toks := s1.toks } := I1.kept fun b o e => Heap.get?_push_of_some _ e
        refine ⟨(s1.heap.push { cls := .type "range", data := .fields #[.int i t, .int j t', .int k t''] }).objs.size, [(s1.heap.push { cls := .type "range", data := .fields #[.int i t, .int j t', .int k t''] }).objs.size], _, _, H1, rfl,
          I2.kept (t' := s1.toks) fun b o e => Heap.get?_push_of_some _ e, turn_step _ i k (Builtin.Range.rangeSize i j k).toNat, ?_, fun b hb => ?_, q⟩
        · have nn : 0 ≤ Builtin.Range.rangeSize i j k := by
            unfold Builtin.Range.rangeSize
            split
            · split
              · have : 0 ≤ (j - i - 1) / k := Int.ediv_nonneg (by omega) (by omega)
                omega
              · exact Int.le_refl 0
            · split
              · have : 0 ≤ (i - j - 1) / (-k) := Int.ediv_nonneg (by omega) (by omega)
                omega
              · exact Int.le_refl 0
          have e1 : i + ((0 : Nat) : Int) * k = i := by simp
          have e2 : (((Builtin.Range.rangeSize i j k).toNat : Nat) : Int) - ((0 : Nat) : Int) = Builtin.Range.rangeSize i j k := by omega
          show IsRangeIter _ _ (i + ((0 : Nat) : Int) * k) ((((Builtin.Range.rangeSize i j k).toNat : Nat) : Int) - ((0 : Nat) : Int)) k
          rw [e1, e2]
          exact Heap.get?_push_size _ rfl
        · have e : b = (s1.heap.push { cls := .type "range", data := .fields #[.int i t, .int j t', .int k t''] }).objs.size := by simpa using hb
          subst e
          exact I2.fpOk (Nat.le_refl _) (I2.hok.fresh (Nat.le_refl _))
end
section
variable {X : Cx}
def rRev (K : PySem.W.Frag) : V → Hp → VK → Prop := fun x H Q => ∃ a xs, x = .ref a ∧ SqL K H a xs ∧ ∀ p, H p = none → Q (.ref p) (upd H p (.lst xs.reverse))
def tRev (K : PySem.W.Frag) (te : TE) : TE := fun σ H Q => te σ H fun x H1 => rRev K x H1 Q
theorem pe_rev {e : Expr} {te : TE} {p2 pos p3 p4 : Pos} {z : Nat} (he : PE X e te) : PE X (.Subscript e (.Slice none none (some (.UnaryOp .USub (.Constant (.int 1) z p3) p4)) p2) pos) (tRev X.K te) := by
  intro pins s σ H Q I h
  refine Subscript_ (thn (he pins s σ H _ I h) fun v s1 ⟨x, H1, I1, r1, a, xs, ex, hx, q⟩ => ?_)
  subst ex
  cases r1
  have hm : PE X (.UnaryOp .USub (.Constant (.int 1) z p3) p4) (tUn (rU fun i => .int (-i)) (tC (.int 1))) := pe_un un_neg pe_int
  refine wpAny_Slice ?_
  rw [evalPart_none]
  refine wpAny_pure (wpAny_pure ?_)
  rw [evalPart_some]
  refine thn (hm pins s1 σ H1 (fun y H2 => y = .int (-1) ∧ H2 = H1) I1 ⟨1, rfl, rfl, rfl⟩) fun st s2 ⟨y, H2, I2, ry, ey, eH⟩ => ?_
  subst ey eH
  obtain ⟨t, rfl⟩ := ry
  have I4 : Inv X pins σ H2 { s2 with heap := s2.heap.push { cls := .type "slice", data := .fields #[.none, .none, .int (-1) t] } } := I2.kept (t' := s2.toks) fun b ob q => Heap.get?_push_of_some _ q
  obtain ⟨its, r, pl, hz⟩ := I4.list hx
  have hlen := r.length
  refine tail_any (ops := [.ref a, .ref s2.heap.objs.size]) pl.isList.typeIs slot_list_getitem.lookup ?_ (by with_unfolding_all rfl)
  refine wpAny_getItem_list_slice pl.isList (Heap.IsSliceOf.new ..) .none .none (.int (-1) t) (by decide) ?_ (by rw [List.size_toArray]; omega)
  rw [PySem.W.krv_pick]
  refine ⟨.ref _, _, I4.laid (t' := s2.toks) (o := .lst xs.reverse) (fun b ob q => Heap.get?_push_of_some _ q) (Nat.le_refl _) ⟨by rw [List.length_reverse]; exact hz, its.reverse, 0, r.reverse, ?_⟩, rfl, q _ (I4.hok.fresh (Nat.le_refl _))⟩
  rw [List.toList_toArray]
  exact Heap.get?_push_size _ rfl
theorem i_rev {te : TE} {σ : St} {H : Hp} {Q : VK} {K : PySem.W.Frag} (h : te σ H fun x H1 => rRev K x H1 Q) : tRev K te σ H Q := h
theorem i_rRev {H : Hp} {Q : VK} {K : PySem.W.Frag} {a : Addr} {xs : List V} (h : H a = some (.lst xs)) (q : ∀ p H', H p = none → Same H H' → H' p = some (.lst xs.reverse) → Q (.ref p) H') : rRev K (.ref a) H Q := ⟨a, xs, rfl, SqL.of h, alloc q⟩
end
theorem ps_setComp {X : Cx} {y : Str} {iy : Nat} {py spos : Pos} {elt iter tg : Expr} {ifs : List Expr} {scope : Scope} {pos : Pos} {N : List Str} {k : Nat} {caps : List Nat} {wi : TI} {g : TG} {tc : TT} {te : TE}
    (hc : X.calm = true) (S : CompOk X.N X.env.scope.names N k caps scope) (hi : PI X tg iter wi)
    (hg : ∀ C fp s H, PG (cxComp X N scope C fp s H) tg g) (ht : ∀ C fp s H, PCs (cxComp X N scope C fp s H) ifs tc) (he : ∀ C fp s H, PE (cxComp X N scope C fp s H) elt te)
    (hN : X.N.Nodup) (hiy : X.N[iy]? = some y) (hy : Loc X.env.scope y) (hsw : swapsWith (.ListComp elt [⟨tg, iter, ifs, 0⟩] scope pos) (some (.Name y py)) spos.line X.env = pure true := by rfl)
    (hs : ∀ x, foldedSetIterable iter X.env x = pure x := by intro _; rfl) (hf : X.fn y = true ∨ X.env.scope.names.lookup y = some .local := by first | exact .inl rfl | exact .inr rfl) :
    PS X (.Assign [.Name y py] (.ListComp elt [⟨tg, iter, ifs, 0⟩] scope pos) spos) (fun D0 σ H => tComp wi k caps g tc te σ H fun x H1 => D0.nx (σ.set iy (some x)) H1) := by
  intro pins s σ H D0 I h
  have hcells : ∀ y ∈ scope.names, y.2 = .free → ∃ c, X.env.cells.lookup y.1 = some c := fun y hy hf => I.ok.has y.1 (S.free y hy hf)
  rw [exec_Assign_Name_used _ _ _ _ hsw]
  refine wpAny_bind (wpAny_standAt (wpAny_bind ?_))
  show wpAny _ X.A (do let _ ← comprehension (.ListComp elt [⟨tg, iter, ifs, 0⟩] scope pos) scope X.env _ (newList []) false (eval iter X.env) (some (assign (.Name y py) X.env))) _ _ s
  refine wpAny_bind (wpAny_mono (wpAny_comprehension_free (use := some (assign (.Name y py) X.env)) (Q := fun _ s' => SP X pins D0 .next s') rfl hs (closure_ok hcells) S.kind S.loc (thn (hi pins s σ H _ I h) fun v s1 h1 => thn h1 fun itv s2 h2 => ?_)) (fun _ s' hq => wpAny_pure (wpAny_pure hq)) fun _ _ e => e)
  obtain ⟨it, fp, tn, J, H2, rfl, I2, T, st2, f2, rd⟩ := h2
  have hD : H2 s2.heap.objs.size = none := I2.fresh
  obtain ⟨W, ⟨m0, w0⟩, turn⟩ := rd s2.heap.objs.size hD
  refine wpAny_newList ?_
  have I3 : Inv X pins σ (upd H2 s2.heap.objs.size (.lst [])) { s2 with heap := s2.heap.push { cls := .type "list", data := .seq ([] : List Value).toArray }, toks := s2.toks } := I2.lnew .nil (Nat.zero_le _)
  refine wpAny_newFunctionEnv S.cell (by intro y hy; simp at hy) (fun h₁ hns₁ hsb₁ => ?_) S.kind
  dsimp only at hns₁ hsb₁ ⊢
  generalize hDa : s2.heap.objs.size = D at *
  generalize hs3 : ({ s2 with heap := s2.heap.push { cls := .type "list", data := .seq ([] : List Value).toArray }, toks := s2.toks } : Shared) = s3 at I3
  have e3 : s3.heap = s2.heap.push { cls := .type "list", data := .seq ([] : List Value).toArray } := by rw [← hs3]
  rw [← e3] at hns₁ hsb₁ ⊢
  generalize hC : s3.heap.objs.size = C at *
  have old : ∀ b o, s3.heap.get? b = some o → h₁.get? b = some o := fun b o e => by
    have hb : b ≠ C := by rw [← hC]; exact Nat.ne_of_lt (Heap.lt_size e)
    exact hsb₁.extBut b o hb (Heap.get?_push_of_some _ e)
  have old2 : ∀ b o, s2.heap.get? b = some o → s3.heap.get? b = some o := fun b o e => by rw [e3]; exact Heap.get?_push_of_some _ e
  have f3 : ∀ b ∈ fp, FpOk X pins (upd H2 D (.lst [])) b := fun b hb => by
    obtain ⟨g0, g1⟩ := f2 b hb
    obtain ⟨o, ho, _⟩ := T.obj _ _ st2 b hb
    have : b ≠ D := by rw [← hDa]; exact Nat.ne_of_lt (Heap.lt_size ho)
    exact ⟨by rw [upd_ne this]; exact g0, g1⟩
  have fpC : ∀ b ∈ fp, b < C := fun b hb => by
    obtain ⟨o, ho, _⟩ := T.obj _ _ st2 b hb
    rw [← hC]
    exact Heap.lt_size (old2 b o ho)
  let Y : Cx := cxComp X N scope C fp s3 (upd H2 D (.lst []))
  have sub : ∀ {x : Str} {c : Addr}, Y.env.cells.lookup x = some c → X.env.cells.lookup x = some c := fun {x c} e => cloOf_sub hcells (fun _ _ z => by simp at z) e
  have YOk : Y.Ok := by
    refine ⟨I.ok.mod, S.kind, I.ok.glob, I.ok.blt, Nat.le_of_eq hC, fun x y c e1 e2 => I.ok.inj x y c (sub e1) (sub e2), fun x hx => ?_, fun x c z _ => by simp [Y, cxComp] at z, I.ok.hd, I.ok.frames, .inl rfl, fun b hb => ⟨Nat.ne_of_lt (fpC b hb), fun x c e => (f3 b hb).2.2.2.2.1 x c (sub e)⟩,
      fun b o e => I3.bs b o e, Nat.le_trans I.ok.bsz I3.sz, fun b o e hb => ?_, fun b hb z => ?_, I3.stack, I3.stkFree⟩
    · have : ∃ k0, scope.names.lookup x = some k0 ∧ (k0 = .free ∨ k0 = .cell) := by
        rcases hx with hx | hx
        · obtain ⟨k0, e0, z⟩ := relabel_kind hx
          rcases z with z | z
          · exact ⟨k0, e0, .inr z.symm⟩
          · exact ⟨k0, e0, .inl z.1⟩
        · obtain ⟨k0, e0, z⟩ := relabel_kind hx
          rcases z with z | z
          · exact ⟨k0, e0, .inl z.symm⟩
          · cases z.2
      obtain ⟨k0, e0, z⟩ := this
      rcases z with z | z
      · subst z; exact cloOf_has e0
      · subst z; exact absurd rfl (S.cell _ (PySem.mem_of_lookup e0))
    · rcases (f3 b hb).2.2.2.1 with z | z
      · exact I.ok.noex b o e z
      · exact absurd (Nat.lt_of_lt_of_le (Nat.lt_of_lt_of_le (Heap.lt_size e) I.ok.bsz) z) (Nat.lt_irrefl _)
    · rcases List.mem_cons.mp (I3.stkSub b z) with q | q
      · exact (f3 b hb).2.1 q
      · exact (f3 b hb).2.2.1 q
  have IY : ∀ tk : Nat, Inv Y [] (List.replicate k none ++ capσ σ caps) (upd H2 D (.lst [])) { s3 with heap := h₁, toks := tk } := fun tk => by
    refine ⟨YOk, rfl, I3.bare, Un.kept old, ⟨_, hns₁, fun i x v e1 e2 e3' => ?_⟩, fun x c e => ?_, I3.hok.fresh (Nat.le_of_eq hC), fun x c e => I3.freeC x c (sub e), fun p hp => absurd (show p ∈ ([] : List (Addr × Obj)) from hp) (by simp), I3.hok.kept old, ?_⟩
    · have hik : k ≤ i := by
        by_cases z : i < k
        · rw [List.getElem?_append_left (by simpa using z), List.getElem?_replicate, if_pos z] at e2
          cases e2
        · omega
      obtain ⟨j, rfl⟩ : ∃ j, i = k + j := ⟨i - k, by omega⟩
      rw [List.getElem?_append_right (by simp)] at e2
      simp only [List.length_replicate, Nat.add_sub_cancel_left] at e2
      have e1' : (N.drop k)[j]? = some x := by rw [List.getElem?_drop]; exact e1
      have e4 : ((N.drop k).map some)[j]? = some (some x) := by rw [List.getElem?_map, e1']; rfl
      rw [S.cap, List.getElem?_map] at e4
      unfold capσ at e2
      rw [List.getElem?_map] at e2
      cases hj : caps[j]? with
      | none => rw [hj] at e4; cases e4
      | some q =>
        rw [hj] at e4 e2
        have e5 : X.N[q]? = some x := Option.some.inj e4
        have e6 : (σ[q]?).join = some v := Option.some.inj e2
        have e7 : σ[q]? = some (some v) := by
          cases z : σ[q]? with
          | none => rw [z] at e6; cases e6
          | some y => rw [z] at e6; simp only [Option.join_some] at e6; rw [e6]
        obtain ⟨k1, k2⟩ := S.fre x (List.mem_of_getElem? e1')
        obtain ⟨m3, hn3, hl3⟩ := I3.loc
        obtain ⟨u, ru, lu⟩ := hl3 q x v e5 e7 (by rcases k2 with z | z; exact .inr (.inl z); exact .inr (.inr z))
        refine ⟨u, ru, .inr ⟨relabel_free k1, ?_⟩⟩
        rcases lu with ⟨z, _⟩ | ⟨_, c, hc1, hc2⟩
        · rcases k2 with z' | z' <;> (have z2 : X.env.scope.names.lookup x = some .local := z; rw [z2] at z'; cases z')
        · obtain ⟨c', hc'⟩ := cloOf_has (env := X.env) (acc := []) k1
          have := cloOf_sub hcells (fun _ _ z => by simp at z) hc'
          rw [hc1] at this; cases this
          obtain ⟨oc, h5, h6⟩ := hc2
          exact ⟨c, hc', oc, old c oc h5, h6⟩
    · obtain ⟨v, oc, h5, h6⟩ := I3.cell x c (sub e)
      exact ⟨v, oc, old c oc h5, h6⟩
    · show _ = N.length
      rw [S.len]; simp [capσ]
  have fpY : ∀ {H' : Hp}, (∀ b ∈ fp, H' b = none) → ∀ b ∈ fp, FpOk Y [] H' b := fun hn b hb => ⟨hn b hb, (YOk.exf b hb).1, YOk.exfs b hb, .inl hb, (YOk.exf b hb).2, fun p hp => absurd (show p ∈ ([] : List (Addr × Obj)) from hp) (by simp)⟩
  have hnD : D ≠ C := by rw [← hC, e3, Heap.size_push, hDa]; exact Nat.ne_of_lt (Nat.lt_succ_self _)
  have loop : ∀ s4 : Shared, Inv Y [] (List.replicate k none ++ capσ σ caps) (upd H2 D (.lst [])) s4 → tn 0 s4.heap →
      codeAny (model X.prog X.w) X.A (.compLoop (.ListComp elt [⟨tg, iter, ifs, 0⟩] scope pos) 0 (.ref it) (.ref D) Y.env) (compPost (model X.prog X.w) X.A X.xe (some (assign (.Name y py) X.env)) (fun _ s' => SP X pins D0 .next s') (.ref D) C) s4 := by
    intro s4 I4 st4
    refine compLoop_own (fun n s' => ∃ i σ' H' ys, Inv Y [] σ' H' s' ∧ tn i s'.heap ∧ (∀ b ∈ fp, H' b = none) ∧ H' D = some (.lst ys) ∧ W i n ys σ' H') ?_ m0 ⟨0, _, _, [], I4, st4, fun b hb => (f3 b hb).1, upd_same, w0⟩
    rintro n s5 ⟨i, σ5, H5, ys, I5, st5, fr5, d5, w5⟩
    rcases turn i n ys σ5 H5 w5 d5 with ⟨stop, q⟩ | ⟨go, step⟩
    · refine wpAny_mono (T.done Y rfl rfl rfl hc i [] s5 σ5 H5 (fun _ _ => False) I5 (fpY fr5) st5 stop) (fun r s6 ⟨hr, I6⟩ => ?_) fun _ _ z => z
      subst hr
      obtain ⟨m6, hn6, _⟩ := id I6.loc
      have fC : H5 C = none := I6.free
      have neC : C ≠ X.env.locals := by rw [← hC]; exact Nat.ne_of_gt I3.lt
      have nC : ∀ x c, X.env.cells.lookup x = some c → c ≠ C := fun x c e z => by
        obtain ⟨v', oc, h5, _⟩ := I3.cell x c e
        have := Heap.lt_size h5
        rw [z, hC] at this
        exact Nat.lt_irrefl _ this
      have I7 : Inv X pins σ H5 s6 := by
        refine I3.call' (ch := fp) (s' := s6) I6.os I6.base I6.hok I6.bare fun b hb => ?_
        obtain ⟨g0, g1, g2, g3, g4, g5⟩ := f3 b hb
        exact ⟨g3, g1, g4, g5⟩
      show wpAny _ X.A (assign (.Name y py) X.env (.ref D)) _ _ _
      refine wpAny_assign_Name (store_ok2 I7 hN hiy hy (show RelV (.ref D) (.ref D) from rfl) (fun s8 I8 ⟨a8, sb8, ha8⟩ => ?_) hf)
      have na8 : C ≠ a8 := by
        rcases ha8 with z | z
        · rw [z]; exact neC
        · exact (nC y a8 z).symm
      refine ⟨m6, hn6.sameBut sb8 na8, fun h' hs' => ?_⟩
      refine ⟨_, H5, I8.turned (it := C) (t' := s8.toks) (fun b o hb e => hs'.extBut b o hb e) fC neC (.inr ?_) nC (fun p hp z => ?_), q⟩
      · rw [← hC]; exact I3.sz
      · have := Heap.lt_size (I3.pin p hp).1
        rw [z, hC] at this
        exact Nat.lt_irrefl _ this
    · refine wpAny_mono (T.item Y rfl rfl rfl hc i [] s5 σ5 H5 (fun _ _ => False) I5 (fpY fr5) st5 go) (fun r s6 ⟨u, hr, h6⟩ => ?_) fun _ _ z => z
      subst hr
      refine wpAny_mono h6 (fun _ s7 ⟨x, H7, I7, r7, y7, st7, fr7⟩ => ?_) fun _ _ z => z
      have I7' := I7.pinned (fpY fr7) (T.obj _ _ st7)
      have back : ∀ {σ8 : St} {H8 : Hp} {s8 : Shared}, Inv Y ([] ++ pinsAt fp s7.heap) σ8 H8 s8 → tn (i + 1) s8.heap ∧ ∀ b ∈ fp, H8 b = none := fun {σ8 H8 s8} I8 => by
        refine ⟨T.keep _ _ _ st7 fun b hb o e => (I8.pin (b, o) (List.mem_append_right _ (List.mem_append_right _ (mem_pinsAt hb e)))).1, fun b hb => ?_⟩
        obtain ⟨o, e, _⟩ := T.obj _ _ st7 b hb
        exact (I8.pin (b, o) (List.mem_append_right _ (List.mem_append_right _ (mem_pinsAt hb e)))).2.1
      refine wpAny_mono (hg C fp s3 _ _ s7 σ5 H7 x u _ I7' r7 (step x H7 y7)) (fun _ s8 ⟨σ8, H8, I8, q8⟩ => ?_) fun _ _ z => z
      refine wpAny_mono (ht C fp s3 _ _ s8 σ8 H8 _ I8 q8) (fun ok s9 ⟨H9, I9, q9⟩ => ?_) fun _ _ z => z
      cases ok with
      | false =>
        rw [if_neg Bool.false_ne_true] at q9 ⊢
        obtain ⟨d9, m', hm, w9⟩ := q9
        exact ⟨m', hm, i + 1, σ8, H9, ys, I9.unpinned, (back I9).1, (back I9).2, d9, w9⟩
      | true =>
        rw [if_pos rfl] at q9 ⊢
        refine wpAny_mono (he C fp s3 _ _ s9 σ8 H9 _ I9 q9) (fun y sA ⟨yv, HA, IA, rA, dA, lA, m', hm, wA⟩ => ?_) fun _ _ z => z
        obtain ⟨z, its, n', rits, hl, e⟩ := IA.lstM dA
        refine call_meets F.slot_list_append ⟨_, e, rfl⟩ F.entry_list_append (F.args_list_append_2 _ _) (PySem.list_append D its.toArray n' y (by rw [List.size_toArray]; omega)) ⟨e, ?_⟩
        have IB := IA.lset (its' := its ++ [y]) (f := fun a => a.push y) (t' := sA.toks) dA e (by simp) (rits.append (.cons rA .nil)) (by rw [List.length_append, List.length_singleton]; omega)
        exact ⟨m', hm, i + 1, σ8, _, ys ++ [yv], IB.unpinned, (back IB).1, (back IB).2, upd_same, wA⟩
  have st3 : tn 0 h₁ := T.keep _ _ _ st2 fun b _ o e => old b o (old2 b o e)
  have I5 := IY (s2.toks + ([] : List (Str × Value)).length)
  have es : ({ s3 with heap := h₁, toks := s2.toks + ([] : List (Str × Value)).length } : Shared) = { s2 with heap := h₁, toks := s2.toks + ([] : List (Str × Value)).length } := by rw [← hs3]
  rw [es] at I5
  refine codeAny_compStart_list ?_ ?_
  · exact loop _ I5 st3
  · exact T.self _ 0 _ _ _ st3 (loop _ I5 st3)
end L2

namespace L2
open PySem PySem.Spec PyProof.Rows
theorem bt_enumerate : bootBuiltins "enumerate" = some (.type "enumerate") := by decide +kernel
structure FunD (K : PySem.W.Frag) (x qual : Str) (st : Stmt) (f : Addr) (fd : FuncData) (items : Array Value) : Prop where
  ex : ∃ (oc : Value) (od : Option Addr) (kV doc pm : Value) (an : Option Addr) (cdv ct : Value) (osl : Array (Option Value)) (T : Addr) (o : Obj) (n : Nat),
    fd = PySem.W.fnOf x qual (defArgs st) (defBody st) (defScope st) (.ref T) kV doc pm an cdv ct ∧ K.lookup f = some ⟨oc, od, .func fd, osl⟩ ∧ PySem.W.codeIn K cdv qual = true ∧ K.lookup T = some o ∧ o.data = .seq items n
  kp : PySem.W.keepIn K (.ref f) = true
section
variable {P : Program} {w : World} {K : PySem.W.Frag} {mg : Str → Option Value} {base : Heap}
theorem FunD.ok {x qual : Str} {st : Stmt} {f : Addr} {fd : FuncData} {items : Array Value} {N ps : List Str} {k : Nat} {sp : Sp} (F : FunD K x qual st f fd items) (S : FnScope N ps (defScope st)) (len : ∀ vs H Q E, sp vs H Q E → vs.length = ps.length)
    (hbody : ∀ (cdv : Value) (A : Around) (outer : List Env) (s : Shared) (H : Hp) (vs : List V) (Q : VK) (E : XK), Room k (A.deeper (envOfC qual (defScope st) s.heap.objs.size f cdv)) → sp vs H Q E →
      ∃ t, PSs (cxOf CX0 P w K mg base N qual (defScope st) f cdv A outer s H E).nox (defBody st) t ∧ t { nx := fun _ H' => Q .non H', rt := Q } (start N vs) H) : FnOk P w K mg base CX0 (k + 1) f fd ps sp := by
  obtain ⟨oc, od, kV, doc, pm, an, cdv, ct, osl, T, o, n, rfl, lk, hcd, _⟩ := F.ex
  refine fn_of lk hcd S len fun A outer s H vs Q E hr hsp => ?_
  obtain ⟨t, h, q⟩ := hbody cdv A outer s H vs Q E hr hsp
  exact ⟨t, h.nox, q⟩
theorem FunD.binds {x qual : Str} {st : Stmt} {f : Addr} {fd : FuncData} {items : Array Value} {ps : List Str} (F : FunD K x qual st f fd items) 
    (h : ∀ (T : Addr) (kV doc pm : Value) (an : Option Addr) (cdv ct : Value) (us : List Value), us.length = ps.length →
      ∃ k : Option (Array Value) → Sem (List (Str × Value)), bindArgs (PySem.W.fnOf x qual (defArgs st) (defBody st) (defScope st) (.ref T) kV doc pm an cdv ct) ⟨us, []⟩ = seqItems? (.ref T) >>= k ∧ k (some items) = pure (ps.zip us)) : Binds K fd ps [] := by
  obtain ⟨oc, od, kV, doc, pm, an, cdv, ct, osl, T, o, n, rfl, lk, hcd, ho, hs⟩ := F.ex
  intro s us X hl
  rw [List.append_nil] at hl ⊢
  obtain ⟨k, h1, h2⟩ := h T kV doc pm an cdv ct us hl
  exact PySem.W.binds_K X rfl ho hs h1 h2
end
def rMax2 : List V → Hp → VK → Prop := fun xs H Q => ∃ i j, xs = [.int i, .int j] ∧ Q (.int (if j > i then j else i)) H
def rMin2 : List V → Hp → VK → Prop := fun xs H Q => ∃ i j, xs = [.int i, .int j] ∧ Q (.int (if j < i then j else i)) H
theorem i_max2 {H : Hp} {Q : VK} {i j : Int} (q : Q (.int (if j > i then j else i)) H) : rMax2 [.int i, .int j] H Q := ⟨i, j, rfl, q⟩
theorem i_min2 {H : Hp} {Q : VK} {i j : Int} (q : Q (.int (if j < i then j else i)) H) : rMin2 [.int i, .int j] H Q := ⟨i, j, rfl, q⟩
end L2

namespace L2
open PySem PySem.Spec PyProof.Rows
section
variable {X : Cx} {pins : List (Addr × Obj)} {σ : List (Option V)} {H : Hp} {s : Shared} {h' : Heap}
theorem Inv.turnedL {t' : Nat} {ch : List Addr} (I : Inv X pins σ H s) (k : ∀ b o, b ∉ ch → s.heap.get? b = some o → h'.get? b = some o) (hf : ∀ b ∈ ch, FpOk X pins H b) : Inv X pins σ H { s with heap := h', toks := t' } := by
  have nit : ∀ b u, H b = some u → b ∉ ch := fun b u e z => by rw [(hf b z).1] at e; cases e
  refine I.step (g' := s.gens) (d' := s.drawn) (ch := ch) (fun b hb => ?_) (fun b o _ _ hc e _ => k b o hc e) (fun b o _ _ hc e _ => ⟨o.slots, k b o hc e⟩) (fun _ _ _ _ n => n)
    (fun b o hc e => ⟨o, k b o hc e⟩) (fun _ _ e => e) (fun _ _ _ e => e) (fun b ps e => ⟨#[], by rw [e]; simp⟩) (fun m hm => ?_) (fun b u e => ?_) I.bare
  · obtain ⟨g0, g1, g2, g3, g4, g5⟩ := hf b hb
    exact ⟨g3, g1, g4, g5⟩
  · obtain ⟨o, es, ep, ho, r⟩ := hm
    exact ⟨o, es, ep, k _ o (fun z => (hf _ z).2.1 rfl) ho, r⟩
  · refine (I.hok b u e).stay (fun c v hc q => k c v ?_ q) (fun _ q => q) fun _ _ q => q
    rcases hc with z | z
    · rw [z]; exact nit b u e
    · exact nit c _ z
end
def Ite (K : PySem.W.Frag) (a : Addr) : It :=
  ⟨fun i H => ∃ xs x, SqL K H a xs ∧ xs[i]? = some x, fun i H x H' => ∃ t, x = .ref t ∧ H t = none ∧ ∀ xs, SqL K H a xs → ∃ v, xs[i]? = some v ∧ H' = upd H t (.tup [.int i, v]), fun i H => ∃ xs, SqL K H a xs ∧ xs.length ≤ i⟩
theorem turn_enum {P : Program} {w : World} {K : PySem.W.Frag} {elts : List Expr} {x1 : Nat} {pos : Pos} (a e it : Addr) (hne : e ≠ it) : Turn P w K (.Tuple elts x1 pos) (Ite K a) [e, it] e (fun i h => (∃ old, IsEnum h e it ((i : Nat) : Int) old) ∧ h.IsListIter it a i) where
  mem := by simp
  obj := fun i h st b hb => by
    obtain ⟨⟨old, he⟩, o, e1, c, d⟩ := st
    rcases List.mem_cons.mp hb with z | z
    · subst z
      exact ⟨_, he, fun v z => by
        have z' : Data.fields _ = Data.cell v := z
        cases z'⟩
    · obtain rfl : b = it := by simpa using z
      exact ⟨o, e1, fun v z => by rw [d] at z; cases z⟩
  keep := fun i h h' st k => by
    obtain ⟨⟨old, he⟩, hi⟩ := st
    exact ⟨⟨old, k e (by simp) _ he⟩, hi.at fun o z => k it (by simp) o z⟩
  item := by
    intro X hP hw hK hc i pins s σ H E I hf st hg
    subst hP hw hK
    obtain ⟨⟨old, he⟩, hi⟩ := st
    obtain ⟨xs, x, hq, hx⟩ := hg
    obtain ⟨its, rv, p, hz⟩ := I.list hq
    obtain ⟨u, hu, ru⟩ := rv.get hx
    refine wpAny_pyNext_enum_item he hi p.isList (x := u) (by simpa using hu) hne fun h1 heo hit1 ht1 hz1 hk1 => ?_
    refine ⟨_, rfl, wpAny_letOwnedTupleGo_enum heo fun h2 he2 hs2 => ?_⟩
    have hs2' : Heap.SameBut e h1 h2 := hs2
    have hel : e < s.heap.objs.size := Heap.lt_size he
    have tl : h2.get? s.heap.objs.size = some { cls := .type "tuple", data := .seq #[.int i s.toks, u] } := (hs2'.2 _ (Nat.ne_of_gt hel)).trans ht1
    have fr : H s.heap.objs.size = none := I.fresh
    have I1 : Inv X pins σ (upd H s.heap.objs.size (.tup [.int i, x])) { s with heap := s.heap.push { cls := .type "tuple", data := .seq #[.int i s.toks, u] }, toks := s.toks + 1 } :=
      I.laid (t' := s.toks + 1) (o := .tup [.int i, x]) (fun b o z => Heap.get?_push_of_some _ z) (Nat.le_refl _) ⟨by show 2 ≤ sizeLine; decide, [.int i s.toks, u], .cons ⟨_, rfl⟩ (.cons ru .nil), _, Heap.get?_push_size _ rfl, rfl, _, rfl⟩
    have fe : ∀ b ∈ [e, it], b ≠ s.heap.objs.size := fun b hb z => by
      obtain ⟨o, ho, _⟩ : ∃ o, s.heap.get? b = some o ∧ True := by
        rcases List.mem_cons.mp hb with y | y
        · subst y; exact ⟨_, he, trivial⟩
        · obtain rfl : b = it := by simpa using y
          obtain ⟨o, e1, _⟩ := hi
          exact ⟨o, e1, trivial⟩
      have := Heap.lt_size ho
      rw [z] at this
      exact Nat.lt_irrefl _ this
    have hf1 : ∀ b ∈ [e, it], FpOk X pins (upd H s.heap.objs.size (.tup [.int i, x])) b := fun b hb => by
      obtain ⟨g0, g1⟩ := hf b hb
      exact ⟨by rw [upd_ne (fe b hb)]; exact g0, g1⟩
    have I2 : Inv X pins σ (upd H s.heap.objs.size (.tup [.int i, x])) { s with heap := h2, toks := s.toks + 1 } := by
      refine Inv.turnedL (s := { s with heap := s.heap.push { cls := .type "tuple", data := .seq #[.int i s.toks, u] }, toks := s.toks + 1 }) (h' := h2) (ch := [e, it]) (t' := s.toks + 1) I1 (fun b o hb z => ?_) hf1
      have n1 : b ≠ e := fun y => hb (by simp [y])
      have n2 : b ≠ it := fun y => hb (by simp [y])
      have z' : (s.heap.push { cls := .type "tuple", data := .seq #[.int i s.toks, u] }).get? b = some o := z
      by_cases hbs : b = s.heap.objs.size
      · subst hbs
        rw [Heap.get?_push_size _ rfl] at z'
        cases z'
        exact tl
      · have zs : s.heap.get? b = some o := by
          rw [Heap.get?_push_ne] at z'
          · exact z'
          · exact hbs
        exact (hs2'.2 b n1).trans (hk1 b o n1 n2 zs)
    refine ⟨.ref s.heap.objs.size, _, I2, rfl, ⟨_, rfl, fr, fun ys hy => ⟨x, by rw [I.list_inj hy hq]; exact hx, rfl⟩⟩, ⟨⟨u, ?_⟩, hit1.extBut hs2'.extBut (Ne.symm hne)⟩, fun b hb => by rw [upd_ne (fe b hb)]; exact (hf b hb).1⟩
    have e3 : ((i + 1 : Nat) : Int) = (i : Int) + 1 := by omega
    show IsEnum h2 e it ((i + 1 : Nat) : Int) u
    rw [e3]; exact he2
  done := by
    intro X hP hw hK hc i pins s σ H E I hf st hg
    subst hP hw hK
    obtain ⟨⟨old, he⟩, hi⟩ := st
    obtain ⟨xs, hq, hx⟩ := hg
    obtain ⟨its, rv, p, hz⟩ := I.list hq
    have hl := rv.length
    refine wpAny_pyNext_enum_end (I.ok.hd hc) he hi p.isList (by simp; omega) fun h1 eb => ⟨rfl, ?_⟩
    exact I.turnedL (ch := [e, it]) (t' := s.toks) (fun b o hb z => eb b o (fun y => hb (by simp [y])) z) hf
  self := fun _ _ _ _ _ st h => by
    obtain ⟨⟨old, he⟩, hi⟩ := st
    exact wpAny_pyIter_enum he h
section
variable {X : Cx}
def iEnum (K : PySem.W.Frag) (ta : TA) : TI := fun σ H R => ta σ H fun vs H1 => ∃ a, vs = [.ref a] ∧ (∃ xs, SqL K H1 a xs) ∧ R (Ite K a) H1
theorem pi_enum {a : Expr} {ta : TA} {p pos : Pos} {elts : List Expr} {x1 : Nat} {tpos : Pos} (hg : Gl X "enumerate") (hm : X.mg "enumerate" = none) (ha : PA X [a] ta) (hs : starEach [a] X.env = [(false, eval a X.env)] := by rfl) : PI X (.Tuple elts x1 tpos) (.Call (.Name "enumerate" p) [a] [] pos) (iEnum X.K ta) := by
  intro pins s σ H R I h
  refine Call_ (ld_blt I hg hm bt_enumerate (PyProof.Rows.callWith_type1 (thn (ha pos pins s σ H _ I h) fun us s1 ⟨vs, H1, I1, r1, q1⟩ => ?_) hs rfl))
  obtain ⟨a, e, ⟨xs, hq⟩, q⟩ := q1
  subst e
  obtain ⟨u, rfl, ru⟩ := vals1 r1
  cases (show u = Value.ref a from ru)
  obtain ⟨its, rv, pl, hz⟩ := I1.list hq
  refine call_enumerate_list pl.isList fun h1 he hit hsz hk => ?_
  refine wpAny_pyIter_enum he ?_
  have I2 : Inv X pins σ H1 { s1 with heap := h1 } := I1.kept (t' := s1.toks) fun b o z => hk b o z
  refine ⟨s1.heap.objs.size + 1, [s1.heap.objs.size + 1, s1.heap.objs.size], _, _, H1, rfl, I2, turn_enum a _ _ (Nat.ne_of_gt (Nat.lt_succ_self _)), ⟨⟨_, he⟩, hit⟩, fun b hb => ?_, q⟩
  have hb' : s1.heap.objs.size ≤ b := by
    rcases List.mem_cons.mp hb with z | z
    · rw [z]; exact Nat.le_succ _
    · have : b = s1.heap.objs.size := by simpa using z
      exact Nat.le_of_eq this.symm
  exact I1.fpOk hb' (I1.hok.fresh hb')
end
section
variable {σ : St} {H : Hp} {Q : VK} {D : Ends} {g : TG} {tb : TS} {te : TE} {aa : TA} {K : PySem.W.Frag}
theorem i_forE (h : aa σ H fun vs H1 => ∃ a, vs = [.ref a] ∧ (∃ xs, SqL K H1 a xs) ∧ ForJ (Ite K a) g tb D σ H1) : tFor (iEnum K aa) g tb D σ H := h
theorem i_for3 (h : aa σ H fun vs H1 => ∃ i j k : Int, vs = [.int i, .int j, .int k] ∧ k ≠ 0 ∧ (j - i).natAbs < 1000000 ∧ k.natAbs < 1000 ∧ Builtin.Range.small i j k = true ∧ ForJ (Its i k (Builtin.Range.rangeSize i j k).toNat) g tb D σ H1) : tFor (iRng3 aa) g tb D σ H := h
theorem i_for2 (h : aa σ H fun vs H1 => ∃ i j : Int, vs = [.int i, .int j] ∧ (-(2 ^ 62) ≤ i ∧ i < 2 ^ 62 ∧ -(2 ^ 62) ≤ j ∧ j < 2 ^ 62) ∧ ForJ (Itr i (j - i).toNat) g tb D σ H1) : tFor (iRng2 aa) g tb D σ H := h
theorem i_forT (h : te σ H fun x H1 => ∃ a, x = .ref a ∧ (∃ xs, SqT K H1 a xs) ∧ ForJ (Itt K a) g tb D σ H1) : tFor (iTup K te) g tb D σ H := h
end
end L2

namespace L2
open PySem PySem.Spec PyProof.Rows
section
variable {σ : St} {H : Hp} {Q : VK} {D : Ends} {g : TG} {tb : TS} {te tl to ti : TE} {tc : TT} {aa : TA} {K : PySem.W.Frag} {k : Nat} {caps : List Nat} {R : St → Hp → Prop}
theorem for_e {a : Addr} {xs : List V} (Pv : Nat → St → Hp → Prop) (h0 : Pv 0 σ H) (hl : ∀ i σ H, i ≤ xs.length → Pv i σ H → SqL K H a xs)
    (hs : ∀ i x σ H t H', xs[i]? = some x → Pv i σ H → H t = none → Same H H' → H' t = some (.tup [.int i, x]) → g (.ref t) σ H' fun σ2 H2 => tb { D with nx := Pv (i + 1), ct := Pv (i + 1), bk := D.nx } σ2 H2) (hd : ∀ σ H, Pv xs.length σ H → D.nx σ H) : ForJ (Ite K a) g tb D σ H := by
  refine ⟨fun i m σ H => m = xs.length - i ∧ i ≤ xs.length ∧ Pv i σ H, ⟨xs.length, by simp, Nat.zero_le _, h0⟩, ?_⟩
  rintro i m σ H ⟨rfl, hi, p⟩
  have q := hl i σ H hi p
  by_cases hlt : i < xs.length
  · refine .inr ⟨⟨xs, xs[i], q, by simp [hlt]⟩, Pv (i + 1), fun σ' H' p' => ⟨xs.length - (i + 1), by omega, rfl, hlt, p'⟩, fun x H' y => ?_⟩
    obtain ⟨t, rfl, ht, y⟩ := y
    obtain ⟨v, hv, rfl⟩ := y xs q
    exact hs i v σ H t _ hv p ht (same_upd ht) upd_same
  · have e : i = xs.length := by omega
    subst e
    exact .inl ⟨⟨xs, q, Nat.le_refl _⟩, hd σ H p⟩
theorem i_gtup {n : Nat} {t : TGs} {a : Addr} {xs : List V} (h : H a = some (.tup xs)) (l : xs.length = n) (q : t xs σ H R) : gTup K n t (.ref a) σ H R := ⟨a, xs, rfl, SqT.of h, l, q⟩
theorem i_gcons {t : TG} {u : TGs} {v : V} {r : List V} (q : t v σ H fun σ' H' => u r σ' H' R) : gCons t u (v :: r) σ H R := ⟨v, r, rfl, q⟩
theorem i_gnil (q : R σ H) : gNil [] σ H R := ⟨rfl, q⟩
theorem i_gsub {t : TSet} {v : V} (q : to σ H fun o H1 => ti σ H1 fun i H2 => t o i v H2 fun H3 => R σ H3) : gSub to ti t v σ H R := q
theorem i_setL {p : Addr} {xs : List V} {i : Int} {v : V} {R : Hp → Prop} (h : H p = some (.lst xs)) (h0 : 0 ≤ i) (h1 : i < xs.length) (q : ∀ H', H' p = some (.lst (xs.set i.toNat v)) → (∀ b o, b ≠ p → H b = some o → H' b = some o) → R H') : rSetL (.ref p) (.int i) v H R := by
  refine ⟨p, xs, i, i.toNat, rfl, rfl, h, ?_, q _ upd_same fun b o hb e => by rw [upd_ne hb]; exact e⟩
  unfold ixN
  rw [if_pos h0, if_pos h1]
def tSetC (iy : Nat) (t : TE) : TS := fun D0 σ H => t σ H fun x H1 => D0.nx (σ.set iy (some x)) H1
theorem i_setC {iy : Nat} {t : TE} (h : t σ H fun x H1 => D.nx (σ.set iy (some x)) H1) : tSetC iy t D σ H := h
theorem i_compL (h : te σ H fun x H1 => ∃ a, x = .ref a ∧ (∃ xs, SqL K H1 a xs) ∧ CompJ (Itl K a) k caps g tc tl σ Q H1) : tComp (iList K te) k caps g tc tl σ H Q := h
theorem i_comp3 (h : aa σ H fun vs H1 => ∃ i j z : Int, vs = [.int i, .int j, .int z] ∧ z ≠ 0 ∧ (j - i).natAbs < 1000000 ∧ z.natAbs < 1000 ∧ Builtin.Range.small i j z = true ∧ CompJ (Its i z (Builtin.Range.rangeSize i j z).toNat) k caps g tc te σ Q H1) : tComp (iRng3 aa) k caps g tc te σ H Q := h
theorem comp_l {a : Addr} {xs : List V} (h : ∀ D, H D = none → ∃ Pv : Nat → List V → St → Hp → Prop, Pv 0 [] (List.replicate k none ++ capσ σ caps) (upd H D (.lst [])) ∧ (∀ i ys σ' H', i ≤ xs.length → Pv i ys σ' H' → SqL K H' a xs) ∧
      (∀ i x ys σ' H', xs[i]? = some x → Pv i ys σ' H' → H' D = some (.lst ys) → g x σ' H' fun σ3 H3 => tc σ3 H3 fun b H4 => if b = true then te σ3 H4 (Yield D xs.length i ys Pv σ3) else H4 D = some (.lst ys) ∧ ∃ m', m' < xs.length - i ∧ (m' = xs.length - (i + 1) ∧ i + 1 ≤ xs.length ∧ Pv (i + 1) ys σ3 H4)) ∧
      ∀ ys σ' H', Pv xs.length ys σ' H' → H' D = some (.lst ys) → Q (.ref D) H') : CompJ (Itl K a) k caps g tc te σ Q H := by
  intro D hD
  obtain ⟨Pv, h0, hq, hs, hd⟩ := h D hD
  refine ⟨fun i m ys σ' H' => m = xs.length - i ∧ i ≤ xs.length ∧ Pv i ys σ' H', ⟨xs.length, by simp, Nat.zero_le _, h0⟩, ?_⟩
  rintro i m ys σ' H' ⟨rfl, hi, p⟩ hl
  have q := hq i ys σ' H' hi p
  by_cases hlt : i < xs.length
  · refine .inr ⟨⟨xs, xs[i], q, by simp [hlt]⟩, fun x H2 y => ?_⟩
    obtain ⟨e, y⟩ := y
    subst e
    exact hs i x ys σ' _ (y xs q) p hl
  · have e : i = xs.length := by omega
    subst e
    exact .inl ⟨⟨xs, q, Nat.le_refl _⟩, hd ys σ' H' p hl⟩
theorem comp_s {lo st : Int} {n : Nat} (h : ∀ D, H D = none → ∃ Pv : Nat → List V → St → Hp → Prop, Pv 0 [] (List.replicate k none ++ capσ σ caps) (upd H D (.lst [])) ∧
      (∀ i ys σ' H', i < n → Pv i ys σ' H' → H' D = some (.lst ys) → g (.int (lo + i * st)) σ' H' fun σ3 H3 => tc σ3 H3 fun b H4 => if b = true then te σ3 H4 (Yield D n i ys Pv σ3) else H4 D = some (.lst ys) ∧ ∃ m', m' < n - i ∧ (m' = n - (i + 1) ∧ i + 1 ≤ n ∧ Pv (i + 1) ys σ3 H4)) ∧
      ∀ ys σ' H', Pv n ys σ' H' → H' D = some (.lst ys) → Q (.ref D) H') : CompJ (Its lo st n) k caps g tc te σ Q H := by
  intro D hD
  obtain ⟨Pv, h0, hs, hd⟩ := h D hD
  refine ⟨fun i m ys σ' H' => m = n - i ∧ i ≤ n ∧ Pv i ys σ' H', ⟨n, by simp, Nat.zero_le _, h0⟩, ?_⟩
  rintro i m ys σ' H' ⟨rfl, hi, p⟩ hl
  by_cases hlt : i < n
  · refine .inr ⟨hlt, fun x H2 y => ?_⟩
    obtain ⟨e, y⟩ := y
    subst e y
    exact hs i ys σ' _ hlt p hl
  · have e : i = n := by omega
    subst e
    exact .inl ⟨Nat.le_refl _, hd ys σ' H' p hl⟩
def PvM (H : Hp) (D : Addr) (σ : St) (k : Nat) (caps : List Nat) (f : Nat → V) : Nat → List V → St → Hp → Prop := fun i ys σ' H' => (∃ own : St, own.length = k ∧ σ' = own ++ capσ σ caps) ∧ ys = (List.range i).map f ∧ Same H H'
def YieldM (H : Hp) (D : Addr) (σ : St) (k : Nat) (caps : List Nat) (f : Nat → V) (n i : Nat) (σ3 : St) : VK := Yield D n i ((List.range i).map f) (PvM H D σ k caps f) σ3
theorem yieldM {D : Addr} {f : Nat → V} {n i : Nat} {y : V} {H' H5 : Hp} {σ3 : St} (own : St) (hn : n ≤ 1000) (hi : i < n) (hD : H D = none) (s : Same H H') (h : H' D = some (.lst ((List.range i).map f))) (s5 : Same H' H5) (e : y = f i) (l : own.length = k) (es : σ3 = own ++ capσ σ caps) : YieldM H D σ k caps f n i σ3 y H5 := by
  refine yield_ok (s5 _ _ h) (by rw [List.length_map, List.length_range]; exact Nat.lt_of_lt_of_le (by omega : i < 1000) k1000) hi ⟨⟨own, l, es⟩, ?_, same_put (s.trans s5) hD⟩
  rw [List.range_succ, List.map_append, e]; rfl
theorem comp_rm {lo : Int} {n : Nat} (f : Nat → V) (hs : ∀ D i own H', H D = none → i < n → own.length = k → Same H H' → H' D = some (.lst ((List.range i).map f)) → g (.int (lo + i)) (own ++ capσ σ caps) H' fun σ3 H3 => tc σ3 H3 fun b H4 => if b = true then te σ3 H4 (YieldM H D σ k caps f n i σ3) else H4 D = some (.lst ((List.range i).map f)) ∧ ∃ m', m' < n - i ∧ (m' = n - (i + 1) ∧ i + 1 ≤ n ∧ PvM H D σ k caps f (i + 1) ((List.range i).map f) σ3 H4))
    (hd : ∀ D H', H D = none → Same H H' → H' D = some (.lst ((List.range n).map f)) → Q (.ref D) H') : CompJ (Itr lo n) k caps g tc te σ Q H := by
  refine comp_r fun D hD => ⟨PvM H D σ k caps f, ⟨⟨List.replicate k none, by simp, rfl⟩, rfl, same_upd hD⟩, ?_, ?_⟩
  · rintro i ys σ' H' hi ⟨⟨own, l, rfl⟩, rfl, s⟩ h
    exact hs D i own H' hD hi l s h
  · rintro ys σ' H' ⟨_, rfl, s⟩ h
    exact hd D H' hD s h
theorem comp_lm {a : Addr} {xs : List V} (f : Nat → V) (ha : H a = some (.lst xs)) (hs : ∀ D i x own H', H D = none → xs[i]? = some x → own.length = k → Same H H' → H' D = some (.lst ((List.range i).map f)) → g x (own ++ capσ σ caps) H' fun σ3 H3 => tc σ3 H3 fun b H4 => if b = true then te σ3 H4 (YieldM H D σ k caps f xs.length i σ3) else H4 D = some (.lst ((List.range i).map f)) ∧ ∃ m', m' < xs.length - i ∧ (m' = xs.length - (i + 1) ∧ i + 1 ≤ xs.length ∧ PvM H D σ k caps f (i + 1) ((List.range i).map f) σ3 H4))
    (hd : ∀ D H', H D = none → Same H H' → H' D = some (.lst ((List.range xs.length).map f)) → Q (.ref D) H') : CompJ (Itl K a) k caps g tc te σ Q H := by
  refine comp_l (xs := xs) fun D hD => ⟨PvM H D σ k caps f, ⟨⟨List.replicate k none, by simp, rfl⟩, rfl, same_upd hD⟩, ?_, ?_, ?_⟩
  · rintro i ys σ' H' hi ⟨_, _, s⟩
    exact SqL.of (s _ _ ha)
  · rintro i x ys σ' H' hi ⟨⟨own, l, rfl⟩, rfl, s⟩ h
    exact hs D i x own H' hD hi l s h
  · rintro ys σ' H' ⟨_, rfl, s⟩ h
    exact hd D H' hD s h
theorem i_neL {a b : Addr} (ns ms : List Int) (h : H a = some (.lst (ns.map V.int))) (h2 : H b = some (.lst (ms.map V.int))) (q : Q (.bl (!decide (ns = ms))) H) : rEqL K true (.ref a) (.ref b) H Q := ⟨a, b, ns, ms, rfl, rfl, SqL.of h, SqL.of h2, q⟩
theorem i_ipI {f : Int → Int → Int} {i j : Int} (q : Q (.int (f i j)) H) : ipI f (.int i) (.int j) H Q := ⟨i, j, rfl, rfl, q⟩
theorem i_aug {n : Nat} {t : TIp} {x : V} (e : σ[n]? = some (some x)) (h : te σ H fun y H1 => t x y H1 fun z H2 => D.nx (σ.set n (some z)) H2) : tAug n te t D σ H := ⟨x, e, h⟩
end
theorem ps_setC {X : Cx} {y : Str} {iy : Nat} {py spos : Pos} {elt iter tg : Expr} {ifs : List Expr} {scope : Scope} {pos : Pos} {N : List Str} {k : Nat} {caps : List Nat} {wi : TI} {g : TG} {tc : TT} {te : TE}
    (hc : X.calm = true) (S : CompOk X.N X.env.scope.names N k caps scope) (hi : PI X tg iter wi)
    (hg : ∀ C fp s H, PG (cxComp X N scope C fp s H) tg g) (ht : ∀ C fp s H, PCs (cxComp X N scope C fp s H) ifs tc) (he : ∀ C fp s H, PE (cxComp X N scope C fp s H) elt te)
    (hN : X.N.Nodup) (hiy : X.N[iy]? = some y) (hy : Loc X.env.scope y) (hsw : swapsWith (.ListComp elt [⟨tg, iter, ifs, 0⟩] scope pos) (some (.Name y py)) spos.line X.env = pure true := by rfl)
    (hs : ∀ x, foldedSetIterable iter X.env x = pure x := by intro _; rfl) (hf : X.fn y = true ∨ X.env.scope.names.lookup y = some .local := by first | exact .inl rfl | exact .inr rfl) :
    PS X (.Assign [.Name y py] (.ListComp elt [⟨tg, iter, ifs, 0⟩] scope pos) spos) (tSetC iy (tComp wi k caps g tc te)) := ps_setComp hc S hi hg ht he hN hiy hy hsw hs hf
end L2

namespace L2
open PySem PySem.Spec PyProof.Rows
end L2

namespace L2
open PySem PySem.Spec PyProof.Rows
abbrev TEm := Addr → St → Hp → (St → Hp → Prop) → Prop
theorem compTurn_l2o (elt t1 i1 t2 i2 : Expr) (f1 f2 : List Expr) (scope : Scope) (pos : Pos) (it acc : Value) (env : Env) :
    compTurn (.ListComp elt [⟨t1, i1, f1, 0⟩, ⟨t2, i2, f2, 0⟩] scope pos) 0 it acc env = (do
      standAt i1.pos
      match ← pyNext it with
      | none => pure (.done .next)
      | some v =>
        letOwnedTupleGo t1 it v
        assign t1 env v
        let ok ← forIn f1 true fun c r => if r = true then do let ok ← isTrue c env (eval c env); pure (ForInStep.yield ok) else pure (ForInStep.yield r)
        if ok then
          let x ← eval i2 env
          standAt i2.pos
          let x ← foldedSetIterable i2 env x
          let jt ← holding [x] (pyIter x)
          let _ ← runOwn (.compStart (.ListComp elt [⟨t1, i1, f1, 0⟩, ⟨t2, i2, f2, 0⟩] scope pos) 1 jt acc env) env
        again (.compLoop (.ListComp elt [⟨t1, i1, f1, 0⟩, ⟨t2, i2, f2, 0⟩] scope pos) 0 it acc env)) := by rfl
theorem compTurn_l2i (elt t1 i1 t2 i2 : Expr) (f1 f2 : List Expr) (scope : Scope) (pos : Pos) (it acc : Value) (env : Env) :
    compTurn (.ListComp elt [⟨t1, i1, f1, 0⟩, ⟨t2, i2, f2, 0⟩] scope pos) 1 it acc env = (do
      standAt i2.pos
      match ← pyNext it with
      | none => pure (.done .next)
      | some v =>
        letOwnedTupleGo t2 it v
        assign t2 env v
        let ok ← forIn f2 true fun c r => if r = true then do let ok ← isTrue c env (eval c env); pure (ForInStep.yield ok) else pure (ForInStep.yield r)
        if ok then
          (do let _ ← call (.builtin "list.append") [acc, ← eval elt env])
        again (.compLoop (.ListComp elt [⟨t1, i1, f1, 0⟩, ⟨t2, i2, f2, 0⟩] scope pos) 1 it acc env)) := by rfl
section
variable {prog : Program} {w : World} {A : Around} {R : Result → Shared → Prop} {s : Shared} {elt t1 i1 t2 i2 : Expr} {f1 f2 : List Expr} {scope : Scope} {pos : Pos} {it acc : Value} {env : Env}
theorem compLoop_in (I : Nat → Shared → Prop)
    (turn : ∀ n s, I n s → wpAny (model prog w) A (pyNext it) (fun r s₁ => match r with
      | none => R (.ok .next) s₁
      | some v => wpAny (model prog w) A (letOwnedTupleGo t2 it v) (fun _ s₁' => wpAny (model prog w) A (assign t2 env v) (fun _ s₂ =>
          wpAny (model prog w) A (forIn f2 true fun c r => if r = true then do let ok ← isTrue c env (eval c env); pure (ForInStep.yield ok) else pure (ForInStep.yield r)) (fun ok s₃ =>
            if ok = true then wpAny (model prog w) A (eval elt env) (fun x s₄ =>
              wpAny (model prog w) A (call (.builtin "list.append") [acc, x]) (fun _ s₅ => ∃ m, m < n ∧ I m s₅) (fun _ _ => False) s₄) (fun _ _ => False) s₃
            else ∃ m, m < n ∧ I m s₃) (fun _ _ => False) s₂) (fun _ _ => False) s₁') (fun _ _ => False) s₁) (fun _ _ => False) s)
    (n : Nat) (h : I n s) : codeAny (model prog w) A (.compLoop (.ListComp elt [⟨t1, i1, f1, 0⟩, ⟨t2, i2, f2, 0⟩] scope pos) 1 it acc env) R s := by
  refine codeAny_loop rfl I (fun n s hI => ?_) n h
  show wpAny _ A ((compTurn (.ListComp elt [⟨t1, i1, f1, 0⟩, ⟨t2, i2, f2, 0⟩] scope pos) 1 it acc env).onRaise (fun x => do noteFrame x env; theTreesLotGoes x)) _ _ s
  refine wpAny_noted ?_
  rw [compTurn_l2i]
  refine wpAny_bind (wpAny_standAt (wpAny_bind (wpAny_mono (turn n s hI) (fun r s₁ h₁ => ?_) fun _ _ h' => h'.elim)))
  cases r with
  | none => exact wpAny_pure h₁
  | some v =>
    refine wpAny_bind (wpAny_mono h₁ (fun _ s₁' h₁' => ?_) fun _ _ h' => h'.elim)
    refine wpAny_bind (wpAny_mono h₁' (fun _ s₂ h₂ => wpAny_bind (wpAny_mono h₂ (fun ok s₃ h₃ => ?_) fun _ _ h' => h'.elim)) fun _ _ h' => h'.elim)
    cases ok with
    | false => exact wpAny_pure ⟨rfl, h₃⟩
    | true =>
      exact wpAny_bind (wpAny_bind (wpAny_mono h₃ (fun x s₄ h₄ => wpAny_bind (wpAny_mono h₄ (fun _ s₅ h₅ => wpAny_pure (wpAny_pure ⟨rfl, h₅⟩)) fun _ _ h' => h'.elim)) fun _ _ h' => h'.elim))
theorem compLoop_out (hs2 : ∀ x, foldedSetIterable i2 env x = pure x) (I : Nat → Shared → Prop)
    (turn : ∀ n s, I n s → wpAny (model prog w) A (pyNext it) (fun r s₁ => match r with
      | none => R (.ok .next) s₁
      | some v => wpAny (model prog w) A (letOwnedTupleGo t1 it v) (fun _ s₁' => wpAny (model prog w) A (assign t1 env v) (fun _ s₂ =>
          wpAny (model prog w) A (forIn f1 true fun c r => if r = true then do let ok ← isTrue c env (eval c env); pure (ForInStep.yield ok) else pure (ForInStep.yield r)) (fun ok s₃ =>
            if ok = true then wpAny (model prog w) A (eval i2 env) (fun x s₄ =>
              wpAny (model prog w) A (pyIter x) (fun jt s₅ => codeAny (model prog w) A (.compStart (.ListComp elt [⟨t1, i1, f1, 0⟩, ⟨t2, i2, f2, 0⟩] scope pos) 1 jt acc env) (fun r s₆ => match r with | .ok _ => ∃ m, m < n ∧ I m s₆ | .error _ => False) s₅) (fun _ _ => False) s₄) (fun _ _ => False) s₃
            else ∃ m, m < n ∧ I m s₃) (fun _ _ => False) s₂) (fun _ _ => False) s₁') (fun _ _ => False) s₁) (fun _ _ => False) s)
    (n : Nat) (h : I n s) : codeAny (model prog w) A (.compLoop (.ListComp elt [⟨t1, i1, f1, 0⟩, ⟨t2, i2, f2, 0⟩] scope pos) 0 it acc env) R s := by
  refine codeAny_loop rfl I (fun n s hI => ?_) n h
  show wpAny _ A ((compTurn (.ListComp elt [⟨t1, i1, f1, 0⟩, ⟨t2, i2, f2, 0⟩] scope pos) 0 it acc env).onRaise (fun x => do noteFrame x env; theTreesLotGoes x)) _ _ s
  refine wpAny_noted ?_
  rw [compTurn_l2o]
  refine wpAny_bind (wpAny_standAt (wpAny_bind (wpAny_mono (turn n s hI) (fun r s₁ h₁ => ?_) fun _ _ h' => h'.elim)))
  cases r with
  | none => exact wpAny_pure h₁
  | some v =>
    refine wpAny_bind (wpAny_mono h₁ (fun _ s₁' h₁' => ?_) fun _ _ h' => h'.elim)
    refine wpAny_bind (wpAny_mono h₁' (fun _ s₂ h₂ => wpAny_bind (wpAny_mono h₂ (fun ok s₃ h₃ => ?_) fun _ _ h' => h'.elim)) fun _ _ h' => h'.elim)
    cases ok with
    | false => exact wpAny_pure ⟨rfl, h₃⟩
    | true =>
      refine wpAny_bind (wpAny_mono h₃ (fun x s₄ h₄ => wpAny_bind (wpAny_standAt (wpAny_bind (wpAny_of_eq (hs2 x) (wpAny_bind (wpAny_holding (wpAny_mono h₄ (fun jt s₅ h₅ => ?_) fun _ _ h' => h'.elim))))))) fun _ _ h' => h'.elim)
      refine wpAny_bind (wpAny_runOwn (codeAny_mono h₅ fun r s₆ h₆ => ?_))
      cases r with
      | error _ => exact h₆.elim
      | ok f => exact wpAny_pure ⟨rfl, h₆⟩
theorem compStart_in
    (h0 : codeAny (model prog w) A (.compLoop (.ListComp elt [⟨t1, i1, f1, 0⟩, ⟨t2, i2, f2, 0⟩] scope pos) 1 it acc env) R s)
    (h : wpAny (model prog w) A (pyIter it) (fun it' s' => codeAny (model prog w) A (.compLoop (.ListComp elt [⟨t1, i1, f1, 0⟩, ⟨t2, i2, f2, 0⟩] scope pos) 1 it' acc env) R s')
      (notedBy (model prog w) A env fun x s' => R (.error x) s') s) :
    codeAny (model prog w) A (.compStart (.ListComp elt [⟨t1, i1, f1, 0⟩, ⟨t2, i2, f2, 0⟩] scope pos) 1 it acc env) R s := by
  refine codeAny_of_tree ?_
  show wpAny _ _ ((compStart (.ListComp elt [⟨t1, i1, f1, 0⟩, ⟨t2, i2, f2, 0⟩] scope pos) 1 it acc env).onRaise (fun x => do noteFrame x env; standAt theWindowsPlace)) _ _ s
  apply wpAny_notedAt
  unfold compStart
  show wpAny _ _ (ask >>= _) _ _ s
  refine wpAny_bind (wpAny_askSetting (wpAny_ite ?_))
  split
  · first
      | exact wpAny_pure ⟨rfl, h0⟩
      | exact wpAny_bind (wpAny_pure (wpAny_pure ⟨rfl, h0⟩))
  · refine wpAny_bind (wpAny_rule ?_)
    first
      | exact wpAny_bind (wpAny_standAt (wpAny_bind (wpAny_mono h (fun x s' h' => wpAny_pure ⟨rfl, h'⟩) fun _ _ z => z)))
      | (show wpAny _ _ (standAt i2.pos >>= _) _ _ s
         exact wpAny_bind (wpAny_standAt (wpAny_bind (wpAny_mono h (fun x s' h' => wpAny_pure ⟨rfl, h'⟩) fun _ _ z => z))))
end
def Emits (Y : Cx) (e i2 : Expr) (em : TEm) : Prop :=
  ∀ (D : Addr) (pins : List (Addr × Obj)) (s : Shared) (σ : St) (H : Hp) (Q : St → Hp → Prop), Inv Y pins σ H s → em D σ H Q →
    wpAny (model Y.prog Y.w) Y.A (eval i2 Y.env) (fun x s1 => wpAny (model Y.prog Y.w) Y.A (pyIter x) (fun jt s2 =>
      codeAny (model Y.prog Y.w) Y.A (.compStart e 1 jt (.ref D) Y.env) (fun r s3 => match r with | .ok _ => ∃ σ' H', Inv Y pins σ' H' s3 ∧ Q σ' H' | .error _ => False) s2) (fun _ _ => False) s1) (fun _ _ => False) s
def tEmit (wi : TI) (g : TG) (tc : TT) (te : TE) : TEm := fun D σ H Q => wi σ H fun J H1 =>
  ∃ W : Nat → Nat → List V → St → Hp → Prop, (∃ ys m, H1 D = some (.lst ys) ∧ W 0 m ys σ H1) ∧
    ∀ i m ys σ' H', W i m ys σ' H' → H' D = some (.lst ys) →
      (J.stop i H' ∧ Q σ' H') ∨ (J.go i H' ∧ ∀ x H2, J.yld i H' x H2 → g x σ' H2 fun σ3 H3 => tc σ3 H3 fun b H4 =>
        if b = true then te σ3 H4 fun y H5 => H5 D = some (.lst ys) ∧ ys.length < sizeLine ∧ ∃ m', m' < m ∧ W (i + 1) m' (ys ++ [y]) σ3 (upd H5 D (.lst (ys ++ [y])))
        else H4 D = some (.lst ys) ∧ ∃ m', m' < m ∧ W (i + 1) m' ys σ3 H4)
theorem emits {Y : Cx} {elt t1 i1 t2 i2 : Expr} {f1 f2 : List Expr} {scope : Scope} {pos : Pos} {wi : TI} {g : TG} {tc : TT} {te : TE} (hc : Y.calm = true) (hx : Y.xe = fun _ _ => False) (hi : PI Y t2 i2 wi) (hg : PG Y t2 g) (ht : PCs Y f2 tc) (he : PE Y elt te) :
    Emits Y (.ListComp elt [⟨t1, i1, f1, 0⟩, ⟨t2, i2, f2, 0⟩] scope pos) i2 (tEmit wi g tc te) := by
  intro D pins s σ H Q I h
  have h0 := hi pins s σ H _ I h
  rw [hx] at h0
  refine wpAny_mono h0 (fun v s1 h1 => wpAny_mono h1 (fun jt s2 h2 => ?_) fun _ _ z => z) fun _ _ z => z
  obtain ⟨it, fp, tn, J, H2, rfl, I2, T, st2, fq, W, ⟨ys0, m0, d0, w0⟩, turn⟩ := h2
  have stat : ∀ {H' : Hp}, (∀ b ∈ fp, H' b = none) → ∀ b ∈ fp, FpOk Y pins H' b := fun hn b hb => ⟨hn b hb, (fq b hb).2⟩
  have loop : codeAny (model Y.prog Y.w) Y.A (.compLoop (.ListComp elt [⟨t1, i1, f1, 0⟩, ⟨t2, i2, f2, 0⟩] scope pos) 1 (.ref it) (.ref D) Y.env) (fun r s3 => match r with | .ok _ => ∃ σ' H', Inv Y pins σ' H' s3 ∧ Q σ' H' | .error _ => False) s2 := by
    refine compLoop_in (fun n s' => ∃ i σ' H' ys, Inv Y pins σ' H' s' ∧ tn i s'.heap ∧ (∀ b ∈ fp, H' b = none) ∧ H' D = some (.lst ys) ∧ W i n ys σ' H') ?_ m0 ⟨0, _, _, ys0, I2, st2, fun b hb => (fq b hb).1, d0, w0⟩
    rintro n s5 ⟨i, σ5, H5, ys, I5, st5, fr5, d5, w5⟩
    rcases turn i n ys σ5 H5 w5 d5 with ⟨stop, q⟩ | ⟨go, step⟩
    · refine wpAny_mono (T.done Y rfl rfl rfl hc i pins s5 σ5 H5 (fun _ _ => False) I5 (stat fr5) st5 stop) (fun r s6 ⟨hr, I6⟩ => ?_) fun _ _ z => z
      subst hr
      exact ⟨σ5, H5, I6, q⟩
    · refine wpAny_mono (T.item Y rfl rfl rfl hc i pins s5 σ5 H5 (fun _ _ => False) I5 (stat fr5) st5 go) (fun r s6 ⟨u, hr, h6⟩ => ?_) fun _ _ z => z
      subst hr
      refine wpAny_mono h6 (fun _ s7 ⟨x, H7, I7, r7, y7, st7, fr7⟩ => ?_) fun _ _ z => z
      have I7' := I7.pinned (stat fr7) (T.obj _ _ st7)
      have back : ∀ {σ8 : St} {H8 : Hp} {s8 : Shared}, Inv Y (pins ++ pinsAt fp s7.heap) σ8 H8 s8 → tn (i + 1) s8.heap ∧ ∀ b ∈ fp, H8 b = none := fun {σ8 H8 s8} I8 => by
        refine ⟨T.keep _ _ _ st7 fun b hb o e => (I8.pin (b, o) (List.mem_append_right _ (List.mem_append_right _ (mem_pinsAt hb e)))).1, fun b hb => ?_⟩
        obtain ⟨o, e, _⟩ := T.obj _ _ st7 b hb
        exact (I8.pin (b, o) (List.mem_append_right _ (List.mem_append_right _ (mem_pinsAt hb e)))).2.1
      have g1 := hg _ s7 σ5 H7 x u _ I7' r7 (step x H7 y7)
      rw [hx] at g1
      refine wpAny_mono g1 (fun _ s8 ⟨σ8, H8, I8, q8⟩ => ?_) fun _ _ z => z
      have g2 := ht _ s8 σ8 H8 _ I8 q8
      rw [hx] at g2
      refine wpAny_mono g2 (fun ok s9 ⟨H9, I9, q9⟩ => ?_) fun _ _ z => z
      cases ok with
      | false =>
        rw [if_neg Bool.false_ne_true] at q9 ⊢
        obtain ⟨d9, m', hm, w9⟩ := q9
        exact ⟨m', hm, i + 1, σ8, H9, ys, I9.unpinned, (back I9).1, (back I9).2, d9, w9⟩
      | true =>
        rw [if_pos rfl] at q9 ⊢
        have g3 := he _ s9 σ8 H9 _ I9 q9
        rw [hx] at g3
        refine wpAny_mono g3 (fun y sA ⟨yv, HA, IA, rA, dA, lA, m', hm, wA⟩ => ?_) fun _ _ z => z
        obtain ⟨z, its, n', rits, hl, e⟩ := IA.lstM dA
        refine call_meets F.slot_list_append ⟨_, e, rfl⟩ F.entry_list_append (F.args_list_append_2 _ _) (PySem.list_append D its.toArray n' y (by rw [List.size_toArray]; omega)) ⟨e, ?_⟩
        have IB := IA.lset (its' := its ++ [y]) (f := fun a => a.push y) (t' := sA.toks) dA e (by simp) (rits.append (.cons rA .nil)) (by rw [List.length_append, List.length_singleton]; omega)
        exact ⟨m', hm, i + 1, σ8, _, ys ++ [yv], IB.unpinned, (back IB).1, (back IB).2, upd_same, wA⟩
  exact compStart_in loop (T.self _ 0 _ _ _ st2 loop)
def tComp2 (wi : TI) (k : Nat) (caps : List Nat) (g : TG) (tc : TT) (em : TEm) : TE := fun σ H Q => wi σ H fun J H1 => ∀ D, H1 D = none →
  ∃ W : Nat → Nat → St → Hp → Prop, (∃ m, W 0 m (List.replicate k none ++ capσ σ caps) (upd H1 D (.lst []))) ∧
    ∀ i m σ' H', W i m σ' H' → (J.stop i H' ∧ Q (.ref D) H') ∨ (J.go i H' ∧ ∀ x H2, J.yld i H' x H2 → g x σ' H2 fun σ3 H3 => tc σ3 H3 fun b H4 =>
        if b = true then em D σ3 H4 fun σ5 H5 => ∃ m', m' < m ∧ W (i + 1) m' σ5 H5 else ∃ m', m' < m ∧ W (i + 1) m' σ3 H4)
theorem pe_comp2 {X : Cx} {elt iter tg iter2 tg2 : Expr} {ifs ifs2 : List Expr} {scope : Scope} {pos : Pos} {N : List Str} {k : Nat} {caps : List Nat} {wi : TI} {g : TG} {tc : TT} {em : TEm}
    (hc : X.calm = true) (S : CompOk X.N X.env.scope.names N k caps scope) (hi : PI X tg iter wi)
    (hg : ∀ C fp s H, PG (cxComp X N scope C fp s H) tg g) (ht : ∀ C fp s H, PCs (cxComp X N scope C fp s H) ifs tc) (hem : ∀ C fp s H, Emits (cxComp X N scope C fp s H) (.ListComp elt [⟨tg, iter, ifs, 0⟩, ⟨tg2, iter2, ifs2, 0⟩] scope pos) iter2 em) (hs2 : ∀ C fp s H x, foldedSetIterable iter2 (cxComp X N scope C fp s H).env x = pure x)
    (hs : ∀ x, foldedSetIterable iter X.env x = pure x := by intro _; rfl) : PE X (.ListComp elt [⟨tg, iter, ifs, 0⟩, ⟨tg2, iter2, ifs2, 0⟩] scope pos) (tComp2 wi k caps g tc em) := by
  intro pins s σ H Q I h
  have hcells : ∀ y ∈ scope.names, y.2 = .free → ∃ c, X.env.cells.lookup y.1 = some c := fun y hy hf => I.ok.has y.1 (S.free y hy hf)
  rw [eval_ListComp]
  refine wpAny_comprehension_free (use := none) rfl hs (closure_ok hcells) S.kind S.loc (thn (hi pins s σ H _ I h) fun v s1 h1 => thn h1 fun itv s2 h2 => ?_)
  obtain ⟨it, fp, tn, J, H2, rfl, I2, T, st2, f2, rd⟩ := h2
  have hD : H2 s2.heap.objs.size = none := I2.fresh
  obtain ⟨W, ⟨m0, w0⟩, turn⟩ := rd s2.heap.objs.size hD
  refine wpAny_newList ?_
  have I3 : Inv X pins σ (upd H2 s2.heap.objs.size (.lst [])) { s2 with heap := s2.heap.push { cls := .type "list", data := .seq ([] : List Value).toArray }, toks := s2.toks } := I2.lnew .nil (Nat.zero_le _)
  refine wpAny_newFunctionEnv S.cell (by intro y hy; simp at hy) (fun h₁ hns₁ hsb₁ => ?_) S.kind
  dsimp only at hns₁ hsb₁ ⊢
  generalize hDa : s2.heap.objs.size = D at *
  generalize hs3 : ({ s2 with heap := s2.heap.push { cls := .type "list", data := .seq ([] : List Value).toArray }, toks := s2.toks } : Shared) = s3 at I3
  have e3 : s3.heap = s2.heap.push { cls := .type "list", data := .seq ([] : List Value).toArray } := by rw [← hs3]
  rw [← e3] at hns₁ hsb₁ ⊢
  generalize hC : s3.heap.objs.size = C at *
  have old : ∀ b o, s3.heap.get? b = some o → h₁.get? b = some o := fun b o e => by
    have hb : b ≠ C := by rw [← hC]; exact Nat.ne_of_lt (Heap.lt_size e)
    exact hsb₁.extBut b o hb (Heap.get?_push_of_some _ e)
  have old2 : ∀ b o, s2.heap.get? b = some o → s3.heap.get? b = some o := fun b o e => by rw [e3]; exact Heap.get?_push_of_some _ e
  have f3 : ∀ b ∈ fp, FpOk X pins (upd H2 D (.lst [])) b := fun b hb => by
    obtain ⟨g0, g1⟩ := f2 b hb
    obtain ⟨o, ho, _⟩ := T.obj _ _ st2 b hb
    have : b ≠ D := by rw [← hDa]; exact Nat.ne_of_lt (Heap.lt_size ho)
    exact ⟨by rw [upd_ne this]; exact g0, g1⟩
  have fpC : ∀ b ∈ fp, b < C := fun b hb => by
    obtain ⟨o, ho, _⟩ := T.obj _ _ st2 b hb
    rw [← hC]
    exact Heap.lt_size (old2 b o ho)
  let Y : Cx := cxComp X N scope C fp s3 (upd H2 D (.lst []))
  have sub : ∀ {x : Str} {c : Addr}, Y.env.cells.lookup x = some c → X.env.cells.lookup x = some c := fun {x c} e => cloOf_sub hcells (fun _ _ z => by simp at z) e
  have YOk : Y.Ok := by
    refine ⟨I.ok.mod, S.kind, I.ok.glob, I.ok.blt, Nat.le_of_eq hC, fun x y c e1 e2 => I.ok.inj x y c (sub e1) (sub e2), fun x hx => ?_, fun x c z _ => by simp [Y, cxComp] at z, I.ok.hd, I.ok.frames, .inl rfl, fun b hb => ⟨Nat.ne_of_lt (fpC b hb), fun x c e => (f3 b hb).2.2.2.2.1 x c (sub e)⟩,
      fun b o e => I3.bs b o e, Nat.le_trans I.ok.bsz I3.sz, fun b o e hb => ?_, fun b hb z => ?_, I3.stack, I3.stkFree⟩
    · have : ∃ k0, scope.names.lookup x = some k0 ∧ (k0 = .free ∨ k0 = .cell) := by
        rcases hx with hx | hx
        · obtain ⟨k0, e0, z⟩ := relabel_kind hx
          rcases z with z | z
          · exact ⟨k0, e0, .inr z.symm⟩
          · exact ⟨k0, e0, .inl z.1⟩
        · obtain ⟨k0, e0, z⟩ := relabel_kind hx
          rcases z with z | z
          · exact ⟨k0, e0, .inl z.symm⟩
          · cases z.2
      obtain ⟨k0, e0, z⟩ := this
      rcases z with z | z
      · subst z; exact cloOf_has e0
      · subst z; exact absurd rfl (S.cell _ (PySem.mem_of_lookup e0))
    · rcases (f3 b hb).2.2.2.1 with z | z
      · exact I.ok.noex b o e z
      · exact absurd (Nat.lt_of_lt_of_le (Nat.lt_of_lt_of_le (Heap.lt_size e) I.ok.bsz) z) (Nat.lt_irrefl _)
    · rcases List.mem_cons.mp (I3.stkSub b z) with q | q
      · exact (f3 b hb).2.1 q
      · exact (f3 b hb).2.2.1 q
  have IY : ∀ tk : Nat, Inv Y [] (List.replicate k none ++ capσ σ caps) (upd H2 D (.lst [])) { s3 with heap := h₁, toks := tk } := fun tk => by
    refine ⟨YOk, rfl, I3.bare, Un.kept old, ⟨_, hns₁, fun i x v e1 e2 e3' => ?_⟩, fun x c e => ?_, I3.hok.fresh (Nat.le_of_eq hC), fun x c e => I3.freeC x c (sub e), fun p hp => absurd (show p ∈ ([] : List (Addr × Obj)) from hp) (by simp), I3.hok.kept old, ?_⟩
    · have hik : k ≤ i := by
        by_cases z : i < k
        · rw [List.getElem?_append_left (by simpa using z), List.getElem?_replicate, if_pos z] at e2
          cases e2
        · omega
      obtain ⟨j, rfl⟩ : ∃ j, i = k + j := ⟨i - k, by omega⟩
      rw [List.getElem?_append_right (by simp)] at e2
      simp only [List.length_replicate, Nat.add_sub_cancel_left] at e2
      have e1' : (N.drop k)[j]? = some x := by rw [List.getElem?_drop]; exact e1
      have e4 : ((N.drop k).map some)[j]? = some (some x) := by rw [List.getElem?_map, e1']; rfl
      rw [S.cap, List.getElem?_map] at e4
      unfold capσ at e2
      rw [List.getElem?_map] at e2
      cases hj : caps[j]? with
      | none => rw [hj] at e4; cases e4
      | some q =>
        rw [hj] at e4 e2
        have e5 : X.N[q]? = some x := Option.some.inj e4
        have e6 : (σ[q]?).join = some v := Option.some.inj e2
        have e7 : σ[q]? = some (some v) := by
          cases z : σ[q]? with
          | none => rw [z] at e6; cases e6
          | some y => rw [z] at e6; simp only [Option.join_some] at e6; rw [e6]
        obtain ⟨k1, k2⟩ := S.fre x (List.mem_of_getElem? e1')
        obtain ⟨m3, hn3, hl3⟩ := I3.loc
        obtain ⟨u, ru, lu⟩ := hl3 q x v e5 e7 (by rcases k2 with z | z; exact .inr (.inl z); exact .inr (.inr z))
        refine ⟨u, ru, .inr ⟨relabel_free k1, ?_⟩⟩
        rcases lu with ⟨z, _⟩ | ⟨_, c, hc1, hc2⟩
        · rcases k2 with z' | z' <;> (have z2 : X.env.scope.names.lookup x = some .local := z; rw [z2] at z'; cases z')
        · obtain ⟨c', hc'⟩ := cloOf_has (env := X.env) (acc := []) k1
          have := cloOf_sub hcells (fun _ _ z => by simp at z) hc'
          rw [hc1] at this; cases this
          obtain ⟨oc, h5, h6⟩ := hc2
          exact ⟨c, hc', oc, old c oc h5, h6⟩
    · obtain ⟨v, oc, h5, h6⟩ := I3.cell x c (sub e)
      exact ⟨v, oc, old c oc h5, h6⟩
    · show _ = N.length
      rw [S.len]; simp [capσ]
  have fpY : ∀ {H' : Hp}, (∀ b ∈ fp, H' b = none) → ∀ b ∈ fp, FpOk Y [] H' b := fun hn b hb => ⟨hn b hb, (YOk.exf b hb).1, YOk.exfs b hb, .inl hb, (YOk.exf b hb).2, fun p hp => absurd (show p ∈ ([] : List (Addr × Obj)) from hp) (by simp)⟩
  have hnD : D ≠ C := by rw [← hC, e3, Heap.size_push, hDa]; exact Nat.ne_of_lt (Nat.lt_succ_self _)
  have loop : ∀ s4 : Shared, Inv Y [] (List.replicate k none ++ capσ σ caps) (upd H2 D (.lst [])) s4 → tn 0 s4.heap →
      codeAny (model X.prog X.w) X.A (.compLoop (.ListComp elt [⟨tg, iter, ifs, 0⟩, ⟨tg2, iter2, ifs2, 0⟩] scope pos) 0 (.ref it) (.ref D) Y.env) (compPost (model X.prog X.w) X.A X.xe none (EP X pins σ Q) (.ref D) C) s4 := by
    intro s4 I4 st4
    refine compLoop_out (hs2 C fp s3 (upd H2 D (.lst []))) (fun n s' => ∃ i σ' H', Inv Y [] σ' H' s' ∧ tn i s'.heap ∧ (∀ b ∈ fp, H' b = none) ∧ W i n σ' H') ?_ m0 ⟨0, _, _, I4, st4, fun b hb => (f3 b hb).1, w0⟩
    rintro n s5 ⟨i, σ5, H5, I5, st5, fr5, w5⟩
    rcases turn i n σ5 H5 w5 with ⟨stop, q⟩ | ⟨go, step⟩
    · refine wpAny_mono (T.done Y rfl rfl rfl hc i [] s5 σ5 H5 (fun _ _ => False) I5 (fpY fr5) st5 stop) (fun r s6 ⟨hr, I6⟩ => ?_) fun _ _ z => z
      subst hr
      obtain ⟨m6, hn6, _⟩ := id I6.loc
      refine ⟨m6, hn6, fun h' hs' => ⟨.ref D, H5, ?_, rfl, q⟩⟩
      have un : Un (frs X.stack) fp (upd H2 D (.lst [])) H5 s3.heap h' := by
        have u := I6.base
        have nc : ∀ b o, s3.heap.get? b = some o → b ≠ C := fun b o e => by rw [← hC]; exact Nat.ne_of_lt (Heap.lt_size e)
        refine ⟨fun b o e n hb hx => (hs'.2 b (nc b o e)).trans (u.keep b o e n hb hx), fun b o e n hb hx => ?_, u.free, fun b o e hx => ?_, u.tups, u.frzs, u.tbls⟩
        · obtain ⟨sl, z⟩ := u.slot b o e n hb hx
          exact ⟨sl, (hs'.2 b (nc b o e)).trans z⟩
        · obtain ⟨o', z⟩ := u.there b o e hx
          exact ⟨o', (hs'.2 b (nc b o e)).trans z⟩
      have hok' : HOk X.prog X.w H5 h' := fun b o e => by
        have fC : H5 C = none := I6.free
        refine (I6.hok b o e).stay (fun c v hc' z => (hs'.2 c ?_).trans z) (fun _ z => z) fun _ _ z => z
        rintro rfl
        rcases hc' with z | z
        · rw [← z, fC] at e; cases e
        · rw [fC] at z; cases z
      refine I3.call' (ch := fp) (s' := { s6 with heap := h' }) I6.os un hok' I6.bare fun b hb => ?_
      obtain ⟨g0, g1, g2, g3, g4, g5⟩ := f3 b hb
      exact ⟨g3, g1, g4, g5⟩
    · refine wpAny_mono (T.item Y rfl rfl rfl hc i [] s5 σ5 H5 (fun _ _ => False) I5 (fpY fr5) st5 go) (fun r s6 ⟨u, hr, h6⟩ => ?_) fun _ _ z => z
      subst hr
      refine wpAny_mono h6 (fun _ s7 ⟨x, H7, I7, r7, y7, st7, fr7⟩ => ?_) fun _ _ z => z
      have I7' := I7.pinned (fpY fr7) (T.obj _ _ st7)
      have back : ∀ {σ8 : St} {H8 : Hp} {s8 : Shared}, Inv Y ([] ++ pinsAt fp s7.heap) σ8 H8 s8 → tn (i + 1) s8.heap ∧ ∀ b ∈ fp, H8 b = none := fun {σ8 H8 s8} I8 => by
        refine ⟨T.keep _ _ _ st7 fun b hb o e => (I8.pin (b, o) (List.mem_append_right _ (List.mem_append_right _ (mem_pinsAt hb e)))).1, fun b hb => ?_⟩
        obtain ⟨o, e, _⟩ := T.obj _ _ st7 b hb
        exact (I8.pin (b, o) (List.mem_append_right _ (List.mem_append_right _ (mem_pinsAt hb e)))).2.1
      refine wpAny_mono (hg C fp s3 _ _ s7 σ5 H7 x u _ I7' r7 (step x H7 y7)) (fun _ s8 ⟨σ8, H8, I8, q8⟩ => ?_) fun _ _ z => z
      refine wpAny_mono (ht C fp s3 _ _ s8 σ8 H8 _ I8 q8) (fun ok s9 ⟨H9, I9, q9⟩ => ?_) fun _ _ z => z
      cases ok with
      | false =>
        rw [if_neg Bool.false_ne_true] at q9 ⊢
        obtain ⟨m', hm, w9⟩ := q9
        exact ⟨m', hm, i + 1, σ8, H9, I9.unpinned, (back I9).1, (back I9).2, w9⟩
      | true =>
        rw [if_pos rfl] at q9 ⊢
        refine wpAny_mono (hem C fp s3 _ D _ s9 σ8 H9 _ I9 q9) (fun v sA hA => wpAny_mono hA (fun it2 sB hB => codeAny_mono hB fun r sC hC => ?_) fun _ _ z => z) fun _ _ z => z
        cases r with
        | error _ => exact hC
        | ok _ =>
          obtain ⟨σA, HA, IA, m', hm, wA⟩ := hC
          exact ⟨m', hm, i + 1, σA, HA, IA.unpinned, (back IA).1, (back IA).2, wA⟩
  have st3 : tn 0 h₁ := T.keep _ _ _ st2 fun b _ o e => old b o (old2 b o e)
  have I5 := IY (s2.toks + ([] : List (Str × Value)).length)
  have es : ({ s3 with heap := h₁, toks := s2.toks + ([] : List (Str × Value)).length } : Shared) = { s2 with heap := h₁, toks := s2.toks + ([] : List (Str × Value)).length } := by rw [← hs3]
  rw [es] at I5
  refine codeAny_compStart_list ?_ ?_
  · exact loop _ I5 st3
  · exact T.self _ 0 _ _ _ st3 (loop _ I5 st3)
theorem pi_listK {X : Cx} {tg l : Expr} {tl : TE} {K : PySem.W.Frag} (h : X.K = K) (hl : PE X l tl) : PI X tg l (iList K tl) := h ▸ pi_list hl
def Comp2J (J : It) (k : Nat) (caps : List Nat) (g : TG) (tc : TT) (em : TEm) (σ : St) (Q : VK) (H1 : Hp) : Prop := ∀ D, H1 D = none →
  ∃ W : Nat → Nat → St → Hp → Prop, (∃ m, W 0 m (List.replicate k none ++ capσ σ caps) (upd H1 D (.lst []))) ∧
    ∀ i m σ' H', W i m σ' H' → (J.stop i H' ∧ Q (.ref D) H') ∨ (J.go i H' ∧ ∀ x H2, J.yld i H' x H2 → g x σ' H2 fun σ3 H3 => tc σ3 H3 fun b H4 =>
        if b = true then em D σ3 H4 fun σ5 H5 => ∃ m', m' < m ∧ W (i + 1) m' σ5 H5 else ∃ m', m' < m ∧ W (i + 1) m' σ3 H4)
section
variable {σ : St} {H : Hp} {Q : VK} {g : TG} {tc : TT} {te : TE} {em : TEm} {K : PySem.W.Frag} {k : Nat} {caps : List Nat}
theorem i_comp2L (h : te σ H fun x H1 => ∃ a, x = .ref a ∧ (∃ xs, SqL K H1 a xs) ∧ Comp2J (Itl K a) k caps g tc em σ Q H1) : tComp2 (iList K te) k caps g tc em σ H Q := h
end
end L2

namespace L2
open PySem PySem.Spec PyProof.Rows
end L2

namespace L2
open PySem PySem.Spec PyProof.Rows
section
variable {σ : St} {H : Hp} {Q : VK} {g : TG} {te : TE} {tc : TT} {K : PySem.W.Frag} {k : Nat} {caps : List Nat}
theorem comp_sm {lo st : Int} {n : Nat} (f : Nat → V) (hs : ∀ D i own H', H D = none → i < n → own.length = k → Same H H' → H' D = some (.lst ((List.range i).map f)) → g (.int (lo + i * st)) (own ++ capσ σ caps) H' fun σ3 H3 => tc σ3 H3 fun b H4 => if b = true then te σ3 H4 (YieldM H D σ k caps f n i σ3) else H4 D = some (.lst ((List.range i).map f)) ∧ ∃ m', m' < n - i ∧ (m' = n - (i + 1) ∧ i + 1 ≤ n ∧ PvM H D σ k caps f (i + 1) ((List.range i).map f) σ3 H4))
    (hd : ∀ D H', H D = none → Same H H' → H' D = some (.lst ((List.range n).map f)) → Q (.ref D) H') : CompJ (Its lo st n) k caps g tc te σ Q H := by
  refine comp_s fun D hD => ⟨PvM H D σ k caps f, ⟨⟨List.replicate k none, by simp, rfl⟩, rfl, same_upd hD⟩, ?_, ?_⟩
  · rintro i ys σ' H' hi ⟨⟨own, l, rfl⟩, rfl, s⟩ h
    exact hs D i own H' hD hi l s h
  · rintro ys σ' H' ⟨_, rfl, s⟩ h
    exact hd D H' hD s h
theorem i_slT {p : Addr} {xs : List V} {lo hi : Option Int} (h : H p = some (.tup xs)) (hw : ¬ (HT.sIx xs.length 0 lo = 0 ∧ HT.sIx xs.length xs.length hi = xs.length)) (q : ∀ l H', H l = none → Same H H' → H' l = some (.tup (cutV xs lo hi)) → Q (.ref l) H') : rSlT K (.ref p) lo hi H Q := ⟨p, xs, rfl, SqT.of h, hw, alloc q⟩
end
def gLst (K : PySem.W.Frag) (n : Nat) (t : TGs) : TG := fun v σ H Q => ∃ a xs, v = .ref a ∧ SqL K H a xs ∧ xs.length = n ∧ t xs σ H Q
theorem pg_lst {X : Cx} {es : List Expr} {k : Nat} {pos : Pos} {t : TGs} {n : Nat} (hc : X.calm = true) (h : PGs X es t)
    (hn : (assignEach es X.env).length = n := by rfl) (hst : (assignEach es X.env).findIdx? (·.1) = none := by rfl) : PG X (.Tuple es k pos) (gLst X.K n t) := by
  intro pins s σ H v u Q I r hw
  obtain ⟨a, xs, e1, hq, hl, hw⟩ := hw
  subst e1
  cases r
  obtain ⟨its, rv, pl, hz⟩ := I.list hq
  have hsz : (assignEach es X.env).length = its.toArray.size := by rw [hn, ← hl, rv.length, List.size_toArray]
  rw [assign_Tuple]
  refine wpAny_bind (wpAny_standAt ?_)
  unfold unpack
  rw [hsz, hst]
  refine wpAny_bind (wpAny_holding (PySem.W.kun_itemsOf (I.ok.hd hc) pl.isList fun h' hx => ?_))
  have I1 : Inv X pins σ H { s with heap := h' } := I.kept (t' := s.toks) fun b o e => hx b o (Nat.ne_of_lt (Heap.lt_size e)) e
  exact h pins _ σ H xs _ Q I1 (by simpa using rv) hw
theorem i_glst {K : PySem.W.Frag} {σ : St} {H : Hp} {R : St → Hp → Prop} {n : Nat} {t : TGs} {a : Addr} {xs : List V} (h : H a = some (.lst xs)) (l : xs.length = n) (q : t xs σ H R) : gLst K n t (.ref a) σ H R := ⟨a, xs, rfl, SqL.of h, l, q⟩
theorem sorted_eq : ∀ {xs ys : List Int}, xs.Perm ys → xs.Pairwise (· ≤ ·) → ys.Pairwise (· ≤ ·) → xs = ys
  | [], ys, p, _, _ => (p.symm.eq_nil).symm
  | x :: xs, ys, p, hx, hy => by
    cases ys with
    | nil => exact absurd p.length_eq (by simp)
    | cons y ys =>
      rw [List.pairwise_cons] at hx hy
      have e : x = y := by
        have m1 : x ∈ y :: ys := p.mem_iff.mp List.mem_cons_self
        have m2 : y ∈ x :: xs := p.mem_iff.mpr List.mem_cons_self
        have h1 : y ≤ x := by
          rcases List.mem_cons.mp m1 with z | z
          · omega
          · exact hy.1 x z
        have h2 : x ≤ y := by
          rcases List.mem_cons.mp m2 with z | z
          · omega
          · exact hx.1 y z
        omega
      subst e
      rw [sorted_eq (List.perm_cons x |>.mp p) hx.2 hy.2]
end L2

namespace L2
open PySem PySem.Spec PyProof.Rows
def Pr (H : Hp) (t : Addr) (q : Nat × Nat) : Prop := H t = some (.tup [.int (q.1 : Nat), .int (q.2 : Nat)])
def PairsR (H : Hp) (p : Addr) (sw : List (Nat × Nat)) : Prop := ∃ ts : List Addr, H p = some (.lst (ts.map V.ref)) ∧ Paired (Pr H) ts sw
theorem pr_same {H H' : Hp} (s : Same H H') {ts : List Addr} {sw : List (Nat × Nat)} (h : Paired (Pr H) ts sw) : Paired (Pr H') ts sw := Paired.mapP h fun _ _ e => s _ _ e
theorem PairsR.same {H H' : Hp} {p : Addr} {sw : List (Nat × Nat)} (h : PairsR H p sw) (s : Same H H') : PairsR H' p sw := by
  obtain ⟨ts, h1, h2⟩ := h
  exact ⟨ts, s _ _ h1, pr_same s h2⟩
theorem pr_snoc {α β : Type} {F : α → β → Prop} : ∀ {l₁ : List α} {l₂ : List β} {a : α} {b : β}, Paired F l₁ l₂ → F a b → Paired F (l₁ ++ [a]) (l₂ ++ [b])
  | _, _, _, _, .nil, h => .cons h .nil
  | _, _, _, _, .cons r t, h => .cons r (pr_snoc t h)
theorem pr_app {α β : Type} {F : α → β → Prop} : ∀ {l₁ : List α} {l₂ : List β} {m₁ : List α} {m₂ : List β}, Paired F l₁ l₂ → Paired F m₁ m₂ → Paired F (l₁ ++ m₁) (l₂ ++ m₂)
  | _, _, _, _, .nil, h => h
  | _, _, _, _, .cons r t, h => .cons r (pr_app t h)
theorem pr_rev {α β : Type} {F : α → β → Prop} : ∀ {l₁ : List α} {l₂ : List β}, Paired F l₁ l₂ → Paired F l₁.reverse l₂.reverse
  | _, _, .nil => .nil
  | _, _, .cons r t => by rw [List.reverse_cons, List.reverse_cons]; exact pr_snoc (pr_rev t) r
section
variable {σ : St} {H : Hp} {Q : VK} {g : TG} {te : TE} {tc : TT} {K : PySem.W.Frag} {k : Nat} {caps : List Nat}
def PvP (H : Hp) (σ : St) (k : Nat) (caps : List Nat) (f : Nat → Nat × Nat) : Nat → List V → St → Hp → Prop := fun i ys σ' H' => (∃ own : St, own.length = k ∧ σ' = own ++ capσ σ caps) ∧ Same H H' ∧ ∃ ts : List Addr, ys = ts.map V.ref ∧ Paired (Pr H') ts ((List.range i).map f)
def YieldP (H : Hp) (D : Addr) (σ : St) (k : Nat) (caps : List Nat) (f : Nat → Nat × Nat) (ys : List V) (n i : Nat) (σ3 : St) : VK := Yield D n i ys (PvP H σ k caps f) σ3
theorem yieldP {D t : Addr} {f : Nat → Nat × Nat} {n i : Nat} {H' H5 : Hp} {σ3 : St} {ts : List Addr} (own : St) (hn : n ≤ 1000) (hi : i < n) (hD : H D = none) (s : Same H H') (h : H' D = some (.lst (ts.map V.ref))) (hp : Paired (Pr H') ts ((List.range i).map f)) (s5 : Same H' H5) (e : Pr H5 t (f i)) (l : own.length = k) (es : σ3 = own ++ capσ σ caps) : YieldP H D σ k caps f (ts.map V.ref) n i σ3 (.ref t) H5 := by
  have lt : ts.length = i := by rw [hp.length, List.length_map, List.length_range]
  have hD5 := s5 _ _ h
  have nD : ∀ {t : Addr} {q : Nat × Nat}, Pr H5 t q → t ≠ D := fun e z => by
    have e' : H5 _ = _ := e
    rw [z, hD5] at e'; cases e'
  refine yield_ok hD5 (Nat.lt_of_lt_of_le (by rw [List.length_map]; omega : _ < 1000) k1000) hi ⟨⟨own, l, es⟩, same_put (s.trans s5) hD, ts ++ [t], by simp, ?_⟩
  rw [List.range_succ, List.map_append]
  refine pr_snoc (Paired.mapP hp fun a q e => ?_) ?_
  · have e5 : Pr H5 a q := s5 _ _ e
    show upd H5 D _ a = _
    rw [upd_ne (nD e5)]; exact e5
  · show upd H5 D _ t = _
    rw [upd_ne (nD e)]; exact e
theorem comp_rp {lo : Int} {n : Nat} (f : Nat → Nat × Nat) (hs : ∀ D i own H' ts, H D = none → i < n → own.length = k → Same H H' → H' D = some (.lst (ts.map V.ref)) → Paired (Pr H') ts ((List.range i).map f) → g (.int (lo + i)) (own ++ capσ σ caps) H' fun σ3 H3 => tc σ3 H3 fun b H4 => if b = true then te σ3 H4 (YieldP H D σ k caps f (ts.map V.ref) n i σ3) else H4 D = some (.lst (ts.map V.ref)) ∧ ∃ m', m' < n - i ∧ (m' = n - (i + 1) ∧ i + 1 ≤ n ∧ PvP H σ k caps f (i + 1) (ts.map V.ref) σ3 H4))
    (hd : ∀ D H', H D = none → Same H H' → PairsR H' D ((List.range n).map f) → Q (.ref D) H') : CompJ (Itr lo n) k caps g tc te σ Q H := by
  refine comp_r fun D hD => ⟨PvP H σ k caps f, ⟨⟨List.replicate k none, by simp, rfl⟩, same_upd hD, [], rfl, .nil⟩, ?_, ?_⟩
  · rintro i ys σ' H' hi ⟨⟨own, l, rfl⟩, s, ts, rfl, hp⟩ h
    exact hs D i own H' ts hD hi l s h hp
  · rintro ys σ' H' ⟨_, s, ts, rfl, hp⟩ h
    exact hd D H' hD s ⟨ts, h, hp⟩
theorem comp_sp {lo st : Int} {n : Nat} (f : Nat → Nat × Nat) (hs : ∀ D i own H' ts, H D = none → i < n → own.length = k → Same H H' → H' D = some (.lst (ts.map V.ref)) → Paired (Pr H') ts ((List.range i).map f) → g (.int (lo + i * st)) (own ++ capσ σ caps) H' fun σ3 H3 => tc σ3 H3 fun b H4 => if b = true then te σ3 H4 (YieldP H D σ k caps f (ts.map V.ref) n i σ3) else H4 D = some (.lst (ts.map V.ref)) ∧ ∃ m', m' < n - i ∧ (m' = n - (i + 1) ∧ i + 1 ≤ n ∧ PvP H σ k caps f (i + 1) (ts.map V.ref) σ3 H4))
    (hd : ∀ D H', H D = none → Same H H' → PairsR H' D ((List.range n).map f) → Q (.ref D) H') : CompJ (Its lo st n) k caps g tc te σ Q H := by
  refine comp_s fun D hD => ⟨PvP H σ k caps f, ⟨⟨List.replicate k none, by simp, rfl⟩, same_upd hD, [], rfl, .nil⟩, ?_, ?_⟩
  · rintro i ys σ' H' hi ⟨⟨own, l, rfl⟩, s, ts, rfl, hp⟩ h
    exact hs D i own H' ts hD hi l s h hp
  · rintro ys σ' H' ⟨_, s, ts, rfl, hp⟩ h
    exact hd D H' hD s ⟨ts, h, hp⟩
end
def i1Int : List V → Hp → VK → Prop := fun xs H Q => (∃ i, xs = [.int i] ∧ Q (.int i) H) ∨ ∃ k, xs = [.bl k] ∧ Q (.int (if k then 1 else 0)) H
theorem cl_int1 {X : Cx} : CallR X (.type "int") i1Int := call_int1
theorem i_intB {H : Hp} {Q : VK} {b : Bool} (q : Q (.int (if b then 1 else 0)) H) : i1Int [.bl b] H Q := .inr ⟨b, rfl, q⟩
theorem i_intI {H : Hp} {Q : VK} {i : Int} (q : Q (.int i) H) : i1Int [.int i] H Q := .inl ⟨i, rfl, q⟩
end L2

namespace L2
open PySem PySem.Spec PyProof.Rows
end L2

namespace L2
open PySem PySem.Spec PyProof.Rows
theorem bt_any : bootBuiltins "any" = some (.builtin "any") := by decide +kernel
theorem bt_max1 : bootBuiltins "max" = some (.builtin "max") := by decide +kernel
theorem bt_zip : bootBuiltins "zip" = some (.type "zip") := by decide +kernel
theorem any_get (bs : List Bool) : (List.range bs.length).any (fun j => (bs[j]?).getD true) = bs.any id := by
  rw [Bool.eq_iff_iff, List.any_eq_true, List.any_eq_true]
  constructor
  · rintro ⟨j, hj, h⟩
    have hj' := List.mem_range.mp hj
    rw [List.getElem?_eq_getElem hj'] at h
    exact ⟨bs[j], List.getElem_mem hj', h⟩
  · rintro ⟨b, hb, h⟩
    obtain ⟨j, hj, rfl⟩ := List.mem_iff_getElem.mp hb
    exact ⟨j, List.mem_range.mpr hj, by rw [List.getElem?_eq_getElem hj]; exact h⟩
section
variable {X : Cx}
def rAny (K : PySem.W.Frag) : List V → Hp → VK → Prop := fun xs H Q => ∃ (p : Addr) (bs : List Bool), xs = [.ref p] ∧ SqL K H p (bs.map V.bl) ∧ Q (.bl (bs.any id)) H
theorem cl_any (hc : X.calm = true) : CallR X (.builtin "any") (rAny X.K) := by
  intro pins s σ H xs us Q I r h
  obtain ⟨p, bs, rfl, hq, q⟩ := h
  obtain ⟨u, rfl, ru⟩ := vals1 r
  cases (show u = Value.ref p from ru)
  obtain ⟨its, rv, pl, hz⟩ := I.list hq
  have hlen : its.length = bs.length := by rw [← rv.length, List.length_map]
  refine call_any_walk (wpAny_pyIter_list pl.isList ?_)
  have hne : p ≠ s.heap.objs.size := Nat.ne_of_lt (by obtain ⟨o, n, e, _⟩ := pl; exact Heap.lt_size e)
  refine ⟨s.heap.objs.size, _, _, _, _, _, fun j => (bs[j]?).getD true, rfl, Walks.list (A := X.A.in1) (I.ok.hd hc) s.heap.objs.size p hne its.toArray, ⟨⟨_, Heap.get?_push_size _ rfl, rfl, rfl⟩, ?_⟩, ?_, fun h' tk hk => ?_⟩
  · obtain ⟨o, n, e, h1, h2, h3⟩ := pl
    exact ⟨o, Heap.get?_push_of_some _ e, h1, n, h3⟩
  · intro i v s2 Q2 E2 hP hQ
    have hP' : its[i]? = some v := by simpa using hP
    cases hb : bs[i]? with
    | none =>
      have : its.length ≤ i := by rw [hlen]; exact List.getElem?_eq_none_iff.mp hb
      rw [List.getElem?_eq_none_iff.mpr this] at hP'; cases hP'
    | some b =>
      obtain ⟨u', hu', ru'⟩ := rv.get (i := i) (x := .bl b) (by rw [List.getElem?_map, hb]; rfl)
      rw [hP'] at hu'; cases hu'
      cases (show v = Value.bool b from ru')
      dsimp only at hQ
      rw [hb] at hQ
      exact wpAny_truthy_bool hQ
  · refine ⟨.bl (bs.any id), H, I.kept (t' := tk) (h' := h') fun b o e => hk b o (by simp; exact Nat.ne_of_lt (Heap.lt_size e)) (Heap.get?_push_of_some _ e), ?_, q⟩
    show Value.bool _ = Value.bool _
    rw [List.size_toArray, hlen, any_get]
def rMaxL (K : PySem.W.Frag) : List V → Hp → VK → Prop := fun xs H Q => ∃ (p : Addr) (ns : List Int), xs = [.ref p] ∧ SqL K H p (ns.map V.int) ∧ ns ≠ [] ∧ ∀ M : Int, M ∈ ns → (∀ a ∈ ns, a ≤ M) → Q (.int M) H
theorem cl_maxL (hc : X.calm = true) : CallR X (.builtin "max") (rMaxL X.K) := by
  intro pins s σ H xs us Q I r h
  obtain ⟨p, ns, rfl, hq, hn, q⟩ := h
  obtain ⟨u, rfl, ru⟩ := vals1 r
  cases (show u = Value.ref p from ru)
  obtain ⟨its, rv, pl, hz⟩ := I.list hq
  have ia := intsAre_of rv
  obtain ⟨xs, hxs⟩ := ia.allInts.items
  have en : ns = xs.toList.map (·.1) := by
    rw [← nums_intItems, ← hxs]; exact ia.numsOf.symm
  have hl := pl.isList
  rw [hxs] at hl
  have l0 : 0 < ns.length := List.length_pos_iff.mpr hn
  have lx : ns.length = xs.size := by rw [en, List.length_map, Array.length_toList]
  refine max_intList (I.ok.hd hc) hl (by omega) fun v h' tk hv hk => ?_
  obtain ⟨t, rfl⟩ := intItems_at hv
  obtain ⟨h1, h2⟩ := argBest_gt (numAt xs) (xs.size - 1)
  have na : ∀ j, numAt xs j = ns.getD j 0 := fun j => by rw [numAt_eq, en]
  refine ⟨.int _, H, I.kept (t' := tk) hk, ⟨_, rfl⟩, q _ ?_ fun a ha => ?_⟩
  · rw [na, List.getD_eq_getElem?_getD, List.getElem?_eq_getElem (by omega)]; exact List.getElem_mem _
  · obtain ⟨j, hj, rfl⟩ := List.mem_iff_getElem.mp ha
    have := h2 j (by omega)
    rw [na j, List.getD_eq_getElem?_getD, List.getElem?_eq_getElem hj] at this
    exact this
def rSumL (K : PySem.W.Frag) : List V → Hp → VK → Prop := fun xs H Q => ∃ (p : Addr) (ns : List Int), xs = [.ref p] ∧ SqL K H p (ns.map V.int) ∧ Q (.int ns.sum) H
theorem cl_sumL (hc : X.calm = true) : CallR X (.builtin "sum") (rSumL X.K) := by
  intro pins s σ H xs us Q I r h
  obtain ⟨p, ns, rfl, hq, q⟩ := h
  obtain ⟨u, rfl, ru⟩ := vals1 r
  cases (show u = Value.ref p from ru)
  obtain ⟨its, rv, pl, hz⟩ := I.list hq
  have ia := intsAre_of rv
  obtain ⟨xs, hxs⟩ := ia.allInts.items
  have en : ns = xs.toList.map (·.1) := by
    rw [← nums_intItems, ← hxs]; exact ia.numsOf.symm
  have hl := pl.isList
  rw [hxs] at hl
  refine sum_intListG (I.ok.hd hc) hl fun h' tk t' hk => ?_
  refine ⟨.int ns.sum, H, I.kept (t' := tk) hk, ?_, q⟩
  rw [preSum_eq, List.take_of_length_le (by simp), ← en]
  exact ⟨_, rfl⟩
end
theorem i_any {K : PySem.W.Frag} {H : Hp} {Q : VK} {p : Addr} (bs : List Bool) (h : H p = some (.lst (bs.map V.bl))) (q : Q (.bl (bs.any id)) H) : rAny K [.ref p] H Q := ⟨p, bs, rfl, SqL.of h, q⟩
theorem i_maxL {K : PySem.W.Frag} {H : Hp} {Q : VK} {p : Addr} (ns : List Int) (h : H p = some (.lst (ns.map V.int))) (hn : ns ≠ []) (q : ∀ M : Int, M ∈ ns → (∀ a ∈ ns, a ≤ M) → Q (.int M) H) : rMaxL K [.ref p] H Q := ⟨p, ns, rfl, SqL.of h, hn, q⟩
theorem i_sumL {K : PySem.W.Frag} {H : Hp} {Q : VK} {p : Addr} (ns : List Int) (h : H p = some (.lst (ns.map V.int))) (q : Q (.int ns.sum) H) : rSumL K [.ref p] H Q := ⟨p, ns, rfl, SqL.of h, q⟩
mutual
def D.ok : D → Bool
  | .str x => PyData.strOk x
  | .lst ds => D.oks ds
  | .tup ds => D.oks ds
  | _ => true
def D.oks : List D → Bool
  | [] => true
  | d :: r => d.ok && D.oks r
end
end L2

namespace L2
open PySem PySem.Spec PyProof.Rows
def Itz (K : PySem.W.Frag) (a b : Addr) : It :=
  ⟨fun i H => ∃ xs ys x y, SqL K H a xs ∧ SqL K H b ys ∧ xs[i]? = some x ∧ ys[i]? = some y,
   fun i H x H' => ∃ t, x = .ref t ∧ H t = none ∧ ∀ xs ys, SqL K H a xs → SqL K H b ys → ∃ v w, xs[i]? = some v ∧ ys[i]? = some w ∧ H' = upd H t (.tup [v, w]),
   fun i H => ∃ xs ys, SqL K H a xs ∧ SqL K H b ys ∧ (xs.length ≤ i ∨ ys.length ≤ i)⟩
theorem turn_zip {P : Program} {w : World} {K : PySem.W.Frag} {elts : List Expr} {x1 : Nat} {pos : Pos} (a b z TI TO i1 i2 : Addr) (D : ZipApart z TI TO i1 i2 a b) :
    Turn P w K (.Tuple elts x1 pos) (Itz K a b) [z, TI, TO, i1, i2] z (fun i h => IsZip h z TI TO .none ∧ IsPair h TI (.ref i1) (.ref i2) ∧ (∃ p q, IsPair h TO p q) ∧ h.IsListIter i1 a i ∧ h.IsListIter i2 b i) where
  mem := by simp
  obj := fun i h st c hb => by
    obtain ⟨hz, hTI, ⟨p, q, hTO⟩, ⟨o1, e1, c1, d1⟩, ⟨o2, e2, c2, d2⟩⟩ := st
    have hb' : c = z ∨ c = TI ∨ c = TO ∨ c = i1 ∨ c = i2 := by simpa using hb
    rcases hb' with rfl | rfl | rfl | rfl | rfl
    · exact ⟨_, hz, fun v y => by have y' : Data.fields _ = Data.cell v := y; cases y'⟩
    · exact ⟨_, hTI, fun v y => by have y' : Data.seq _ _ = Data.cell v := y; cases y'⟩
    · exact ⟨_, hTO, fun v y => by have y' : Data.seq _ _ = Data.cell v := y; cases y'⟩
    · exact ⟨o1, e1, fun v y => by rw [d1] at y; cases y⟩
    · exact ⟨o2, e2, fun v y => by rw [d2] at y; cases y⟩
  keep := fun i h h' st k => by
    obtain ⟨hz, hTI, ⟨p, q, hTO⟩, h1, h2⟩ := st
    exact ⟨k z (by simp) _ hz, k TI (by simp) _ hTI, ⟨p, q, k TO (by simp) _ hTO⟩, h1.at fun o e => k i1 (by simp) o e, h2.at fun o e => k i2 (by simp) o e⟩
  item := by
    intro X hP hw hK hc i pins s σ H E I hf st hg
    subst hP hw hK
    obtain ⟨hz, hTI, ⟨p, q, hTO⟩, hi1, hi2⟩ := st
    obtain ⟨xs, ys, x, y, hq1, hq2, hx, hy⟩ := hg
    obtain ⟨t1, rv1, p1, hz1⟩ := I.list hq1
    obtain ⟨t2, rv2, p2, hz2⟩ := I.list hq2
    obtain ⟨u, hu, ru⟩ := rv1.get hx
    obtain ⟨v, hv, rv⟩ := rv2.get hy
    refine wpAny_pyNext_zip_item D hz hTI hTO hi1 hi2 p1.isList p2.isList (x := u) (y := v) (by simpa using hu) (by simpa using hv) fun h1 az aTO a1 a2 aN asz ak => ?_
    refine ⟨_, rfl, wpAny_letOwnedTupleGo_zip az fun h2 hz2 hs2 => ?_⟩
    have hs2' : Heap.SameBut z h1 h2 := hs2
    have hzl : z < s.heap.objs.size := Heap.lt_size hz
    have tl : h2.get? s.heap.objs.size = some { cls := .type "tuple", data := .seq #[u, v] } := (hs2'.2 _ (Nat.ne_of_gt hzl)).trans aN
    have fr : H s.heap.objs.size = none := I.fresh
    have I1 : Inv X pins σ (upd H s.heap.objs.size (.tup [x, y])) { s with heap := s.heap.push { cls := .type "tuple", data := .seq #[u, v] }, toks := s.toks } :=
      I.laid (t' := s.toks) (o := .tup [x, y]) (fun b o z => Heap.get?_push_of_some _ z) (Nat.le_refl _) ⟨by show 2 ≤ sizeLine; decide, [u, v], .cons ru (.cons rv .nil), _, Heap.get?_push_size _ rfl, rfl, _, rfl⟩
    have ex : ∀ c ∈ [z, TI, TO, i1, i2], ∃ o, s.heap.get? c = some o := fun c hb => by
      have hb' : c = z ∨ c = TI ∨ c = TO ∨ c = i1 ∨ c = i2 := by simpa using hb
      rcases hb' with e | e | e | e | e
      · rw [e]; exact ⟨_, hz⟩
      · rw [e]; exact ⟨_, hTI⟩
      · rw [e]; exact ⟨_, hTO⟩
      · rw [e]; obtain ⟨o, e1, _⟩ := hi1; exact ⟨o, e1⟩
      · rw [e]; obtain ⟨o, e1, _⟩ := hi2; exact ⟨o, e1⟩
    have fe : ∀ c ∈ [z, TI, TO, i1, i2], c ≠ s.heap.objs.size := fun c hb e => by
      obtain ⟨o, ho⟩ := ex c hb
      have := Heap.lt_size ho
      rw [e] at this
      exact Nat.lt_irrefl _ this
    have hf1 : ∀ c ∈ [z, TI, TO, i1, i2], FpOk X pins (upd H s.heap.objs.size (.tup [x, y])) c := fun c hb => by
      obtain ⟨g0, g1⟩ := hf c hb
      exact ⟨by rw [upd_ne (fe c hb)]; exact g0, g1⟩
    have I2 : Inv X pins σ (upd H s.heap.objs.size (.tup [x, y])) { s with heap := h2, toks := s.toks } := by
      refine Inv.turnedL (s := { s with heap := s.heap.push { cls := .type "tuple", data := .seq #[u, v] }, toks := s.toks }) (h' := h2) (ch := [z, TI, TO, i1, i2]) (t' := s.toks) I1 (fun c o hb e => ?_) hf1
      have n1 : c ≠ z := fun y => hb (by simp [y])
      have n2 : c ≠ TO := fun y => hb (by simp [y])
      have n3 : c ≠ i1 := fun y => hb (by simp [y])
      have n4 : c ≠ i2 := fun y => hb (by simp [y])
      have e' : (s.heap.push { cls := .type "tuple", data := .seq #[u, v] }).get? c = some o := e
      by_cases hbs : c = s.heap.objs.size
      · subst hbs
        rw [Heap.get?_push_size _ rfl] at e'
        cases e'
        exact tl
      · have zs : s.heap.get? c = some o := by
          rw [Heap.get?_push_ne] at e'
          · exact e'
          · exact hbs
        exact (hs2'.2 c n1).trans (ak c o n1 n2 n3 n4 zs)
    refine ⟨.ref s.heap.objs.size, _, I2, rfl, ⟨_, rfl, fr, fun xs' ys' hy1 hy2 => ⟨x, y, by rw [I.list_inj hy1 hq1]; exact hx, by rw [I.list_inj hy2 hq2]; exact hy, rfl⟩⟩,
      ⟨hz2, hs2'.extBut _ _ D.TIz (ak _ _ D.TIz D.TITO D.TIi1 D.TIi2 hTI), ⟨_, _, hs2'.extBut _ _ D.TOz aTO⟩, a1.extBut hs2'.extBut D.i1z, a2.extBut hs2'.extBut D.i2z⟩, fun c hb => by rw [upd_ne (fe c hb)]; exact (hf c hb).1⟩
  done := by
    intro X hP hw hK hc i pins s σ H E I hf st hg
    subst hP hw hK
    obtain ⟨hz, hTI, ⟨p, q, hTO⟩, hi1, hi2⟩ := st
    obtain ⟨xs, ys, hq1, hq2, hx⟩ := hg
    obtain ⟨t1, rv1, p1, hz1⟩ := I.list hq1
    obtain ⟨t2, rv2, p2, hz2⟩ := I.list hq2
    have l1 := rv1.length
    have l2 := rv2.length
    refine wpAny_pyNext_zip_end (I.ok.hd hc) D hz hTI hTO hi1 hi2 p1.isList p2.isList ?_ fun h1 eb => ⟨rfl, ?_⟩
    · rcases hx with h | h
      · exact .inl (by simp; omega)
      · exact .inr (by simp; omega)
    · exact I.turnedL (ch := [z, TI, TO, i1, i2]) (t' := s.toks) (fun c o hb e => eb c o (fun y => hb (by simp [y])) (fun y => hb (by simp [y])) (fun y => hb (by simp [y])) (fun y => hb (by simp [y])) e) hf
  self := fun _ _ _ _ _ st h => wpAny_pyIter_zip st.1 h
section
variable {X : Cx}
theorem zip_apart {n l1 l2 : Addr} (h1 : l1 < n) (h2 : l2 < n) : ZipApart (n + 4) (n + 2) (n + 3) n (n + 1) l1 l2 := by
  have key : ∀ (n l1 l2 : Nat), l1 < n → l2 < n → (n + 2 ≠ n + 4 ∧ n + 3 ≠ n + 4 ∧ n ≠ n + 4 ∧ n + 1 ≠ n + 4 ∧ n + 2 ≠ n + 3 ∧ n + 2 ≠ n ∧ n + 2 ≠ n + 1 ∧ n + 3 ≠ n ∧ n + 3 ≠ n + 1 ∧ n ≠ n + 1) ∧ (l1 ≠ n + 4 ∧ l1 ≠ n + 3 ∧ l1 ≠ n ∧ l1 ≠ n + 1) ∧ l2 ≠ n + 4 ∧ l2 ≠ n + 3 ∧ l2 ≠ n ∧ l2 ≠ n + 1 := by omega
  obtain ⟨⟨a1, a2, a3, a4, a5, a6, a7, a8, a9, a10⟩, ⟨b1, b2, b3, b4⟩, c1, c2, c3, c4⟩ := key n l1 l2 h1 h2
  exact ⟨a1, a2, a3, a4, a5, a6, a7, a8, a9, a10, b1, b2, b3, b4, c1, c2, c3, c4⟩
def iZip (K : PySem.W.Frag) (ta : TA) : TI := fun σ H R => ta σ H fun vs H1 => ∃ a b, vs = [.ref a, .ref b] ∧ (∃ xs, SqL K H1 a xs) ∧ (∃ ys, SqL K H1 b ys) ∧ R (Itz K a b) H1
theorem pi_zip {e1 e2 : Expr} {ta : TA} {p pos : Pos} {elts : List Expr} {x1 : Nat} {tpos : Pos} (hg : Gl X "zip") (hm : X.mg "zip" = none) (ha : PA X [e1, e2] ta) (hs : starEach [e1, e2] X.env = (false, eval e1 X.env) :: starEach [e2] X.env := by rfl) (hs2 : (backTo pos (starEach [e2] X.env)).any (·.1) = false := by rfl) : PI X (.Tuple elts x1 tpos) (.Call (.Name "zip" p) [e1, e2] [] pos) (iZip X.K ta) := by
  intro pins s σ H R I h
  refine Call_ (ld_blt I hg hm bt_zip (PyProof.Rows.callWith_type1 (thn (ha pos pins s σ H _ I h) fun us s1 ⟨vs, H1, I1, r1, q1⟩ => ?_) hs hs2))
  obtain ⟨a, b, e, ⟨xs, hq1⟩, ⟨ys, hq2⟩, q⟩ := q1
  subst e
  obtain ⟨u, v, rfl, ru, rv⟩ := vals2 r1
  cases (show u = Value.ref a from ru)
  cases (show v = Value.ref b from rv)
  obtain ⟨t1, rv1, p1, hz1⟩ := I1.list hq1
  obtain ⟨t2, rv2, p2, hz2⟩ := I1.list hq2
  have al : a < s1.heap.objs.size := by obtain ⟨o, n, e, _⟩ := p1; exact Heap.lt_size e
  have bl : b < s1.heap.objs.size := by obtain ⟨o, n, e, _⟩ := p2; exact Heap.lt_size e
  refine call_zip_2 p1.isList p2.isList fun h1 hz hTI hTO hi1 hi2 hsz hk => ?_
  refine wpAny_pyIter_zip hz ?_
  have I2 : Inv X pins σ H1 { s1 with heap := h1 } := I1.kept (t' := s1.toks) fun b o z => hk b o z
  refine ⟨s1.heap.objs.size + 4, [s1.heap.objs.size + 4, s1.heap.objs.size + 2, s1.heap.objs.size + 3, s1.heap.objs.size, s1.heap.objs.size + 1], _, _, H1, rfl, I2, turn_zip a b _ _ _ _ _ (zip_apart al bl), ⟨hz, hTI, ⟨_, _, hTO⟩, hi1, hi2⟩, fun c hb => ?_, q⟩
  have hb' : s1.heap.objs.size ≤ c := by
    have hb' : c = s1.heap.objs.size + 4 ∨ c = s1.heap.objs.size + 2 ∨ c = s1.heap.objs.size + 3 ∨ c = s1.heap.objs.size ∨ c = s1.heap.objs.size + 1 := by simpa using hb
    rcases hb' with e | e | e | e | e <;> rw [e]
    · exact Nat.le_add_right _ _
    · exact Nat.le_add_right _ _
    · exact Nat.le_add_right _ _
    · exact Nat.le_refl _
    · exact Nat.le_add_right _ _
  exact I1.fpOk hb' (I1.hok.fresh hb')
end
end L2

namespace L2
open PySem PySem.Spec PyProof.Rows
structure Stab {α : Type} (R : Hp → V → α → Prop) : Prop where
  mono : ∀ {H H' : Hp} {v : V} {a : α}, Same H H' → R H v a → R H' v a
  rf : ∀ {H : Hp} {v : V} {a : α}, R H v a → ∃ p, v = .ref p
  wr : ∀ {H : Hp} {D : Addr} {ys zs : List V} {as : List α} {v : V} {a : α}, Paired (R H) ys as → H D = some (.lst ys) → R H v a → R (upd H D (.lst zs)) v a
section
variable {α : Type} {R : Hp → V → α → Prop} {σ : St} {H : Hp} {Q : VK} {g : TG} {tc : TT} {te : TE} {K : PySem.W.Frag} {k : Nat} {caps : List Nat}
def PvR (R : Hp → V → α → Prop) (G : Nat → α → Prop) (H : Hp) (σ : St) (k : Nat) (caps : List Nat) : Nat → List V → St → Hp → Prop := fun i ys σ' H' => (∃ own : St, own.length = k ∧ σ' = own ++ capσ σ caps) ∧ Same H H' ∧ ∃ as : List α, as.length = i ∧ Paired (R H') ys as ∧ ∀ j a, as[j]? = some a → G j a
def YieldR (R : Hp → V → α → Prop) (G : Nat → α → Prop) (H : Hp) (D : Addr) (σ : St) (k : Nat) (caps : List Nat) (ys : List V) (n i : Nat) (σ3 : St) : VK := Yield D n i ys (PvR R G H σ k caps) σ3
theorem yieldR (S : Stab R) {G : Nat → α → Prop} {D : Addr} {n i : Nat} {y : V} {a : α} {H' H5 : Hp} {σ3 : St} {ys : List V} {as : List α} (own : St) (hn : n ≤ 1000) (hi : i < n) (hD : H D = none) (s : Same H H') (h : H' D = some (.lst ys)) (hp : Paired (R H') ys as) (la : as.length = i) (hG : ∀ j a, as[j]? = some a → G j a)
    (s5 : Same H' H5) (e : R H5 y a) (eg : G i a) (l : own.length = k) (es : σ3 = own ++ capσ σ caps) : YieldR R G H D σ k caps ys n i σ3 y H5 := by
  have hD5 := s5 _ _ h
  have p5 : Paired (R H5) ys as := Paired.mapP hp fun _ _ q => S.mono s5 q
  refine yield_ok hD5 (Nat.lt_of_lt_of_le (by rw [hp.length]; omega : _ < 1000) k1000) hi ⟨⟨own, l, es⟩, same_put (s.trans s5) hD, as ++ [a], by rw [List.length_append, la]; rfl, ?_, fun j b hj => ?_⟩
  · exact pr_snoc (Paired.mapP p5 fun _ _ q => S.wr p5 hD5 q) (S.wr p5 hD5 e)
  · by_cases c : j < as.length
    · rw [List.getElem?_append_left c] at hj; exact hG j b hj
    · rw [List.getElem?_append_right (by omega)] at hj
      have : j - as.length = 0 := by
        by_cases z : j - as.length = 0
        · exact z
        · rw [List.getElem?_eq_none (by show 1 ≤ _; omega)] at hj; cases hj
      rw [this] at hj
      have ej : j = i := by omega
      have eb : a = b := Option.some.inj hj
      rw [ej, ← eb]; exact eg
theorem comp_rR {lo : Int} {n : Nat} (G : Nat → α → Prop) (hs : ∀ D i own H' ys as, H D = none → i < n → own.length = k → Same H H' → H' D = some (.lst ys) → Paired (R H') ys as → as.length = i → (∀ j a, as[j]? = some a → G j a) → g (.int (lo + i)) (own ++ capσ σ caps) H' fun σ3 H3 => tc σ3 H3 fun b H4 => if b = true then te σ3 H4 (YieldR R G H D σ k caps ys n i σ3) else H4 D = some (.lst ys) ∧ ∃ m', m' < n - i ∧ (m' = n - (i + 1) ∧ i + 1 ≤ n ∧ PvR R G H σ k caps (i + 1) ys σ3 H4))
    (hd : ∀ D H' ys as, H D = none → Same H H' → H' D = some (.lst ys) → Paired (R H') ys as → as.length = n → (∀ j a, as[j]? = some a → G j a) → Q (.ref D) H') : CompJ (Itr lo n) k caps g tc te σ Q H := by
  refine comp_r fun D hD => ⟨PvR R G H σ k caps, ⟨⟨List.replicate k none, by simp, rfl⟩, same_upd hD, [], rfl, .nil, fun j a e => by simp at e⟩, ?_, ?_⟩
  · rintro i ys σ' H' hi ⟨⟨own, l, rfl⟩, s, as, la, hp, hG⟩ h
    exact hs D i own H' ys as hD hi l s h hp la hG
  · rintro ys σ' H' ⟨_, s, as, la, hp, hG⟩ h
    exact hd D H' ys as hD s h hp la hG
theorem comp_lR {a : Addr} {xs : List V} (G : Nat → α → Prop) (ha : H a = some (.lst xs)) (hs : ∀ D i x own H' ys as, H D = none → xs[i]? = some x → own.length = k → Same H H' → H' D = some (.lst ys) → Paired (R H') ys as → as.length = i → (∀ j a, as[j]? = some a → G j a) → g x (own ++ capσ σ caps) H' fun σ3 H3 => tc σ3 H3 fun b H4 => if b = true then te σ3 H4 (YieldR R G H D σ k caps ys xs.length i σ3) else H4 D = some (.lst ys) ∧ ∃ m', m' < xs.length - i ∧ (m' = xs.length - (i + 1) ∧ i + 1 ≤ xs.length ∧ PvR R G H σ k caps (i + 1) ys σ3 H4))
    (hd : ∀ D H' ys as, H D = none → Same H H' → H' D = some (.lst ys) → Paired (R H') ys as → as.length = xs.length → (∀ j a, as[j]? = some a → G j a) → Q (.ref D) H') : CompJ (Itl K a) k caps g tc te σ Q H := by
  refine comp_l (xs := xs) fun D hD => ⟨PvR R G H σ k caps, ⟨⟨List.replicate k none, by simp, rfl⟩, same_upd hD, [], rfl, .nil, fun j a e => by simp at e⟩, ?_, ?_, ?_⟩
  · rintro i ys σ' H' hi ⟨_, s, _⟩
    exact SqL.of (s _ _ ha)
  · rintro i x ys σ' H' hi ⟨⟨own, l, rfl⟩, s, as, la, hp, hG⟩ h
    exact hs D i x own H' ys as hD hi l s h hp la hG
  · rintro ys σ' H' ⟨_, s, as, la, hp, hG⟩ h
    exact hd D H' ys as hD s h hp la hG
end
theorem as_map {α : Type} {f : Nat → α} {as : List α} {n : Nat} (l : as.length = n) (h : ∀ j a, as[j]? = some a → a = f j) : as = (List.range n).map f := by
  refine List.ext_getElem? fun i => ?_
  rw [List.getElem?_map]
  by_cases c : i < n
  · rw [List.getElem?_range c, List.getElem?_eq_getElem (by omega)]
    exact congrArg some (h i _ (List.getElem?_eq_getElem (by omega)))
  · rw [List.getElem?_eq_none (by omega), List.getElem?_eq_none (by rw [List.length_range]; omega)]; rfl
section
variable {σ : St} {H : Hp} {D : Ends} {g : TG} {tb : TS} {aa : TA} {K : PySem.W.Frag}
theorem i_forZ (h : aa σ H fun vs H1 => ∃ a b, vs = [.ref a, .ref b] ∧ (∃ xs, SqL K H1 a xs) ∧ (∃ ys, SqL K H1 b ys) ∧ ForJ (Itz K a b) g tb D σ H1) : tFor (iZip K aa) g tb D σ H := h
theorem for_z {a b : Addr} {xs ys : List V} (le : ys.length ≤ xs.length) (Pv : Nat → St → Hp → Prop) (h0 : Pv 0 σ H) (hl : ∀ i σ H, i ≤ ys.length → Pv i σ H → SqL K H a xs ∧ SqL K H b ys)
    (hs : ∀ i x y σ H t H', xs[i]? = some x → ys[i]? = some y → Pv i σ H → H t = none → Same H H' → H' t = some (.tup [x, y]) → g (.ref t) σ H' fun σ2 H2 => tb { D with nx := Pv (i + 1), ct := Pv (i + 1), bk := D.nx } σ2 H2) (hd : ∀ σ H, Pv ys.length σ H → D.nx σ H) : ForJ (Itz K a b) g tb D σ H := by
  refine ⟨fun i m σ H => m = ys.length - i ∧ i ≤ ys.length ∧ Pv i σ H, ⟨ys.length, by simp, Nat.zero_le _, h0⟩, ?_⟩
  rintro i m σ H ⟨rfl, hi, p⟩
  obtain ⟨q1, q2⟩ := hl i σ H hi p
  by_cases hlt : i < ys.length
  · refine .inr ⟨⟨xs, ys, xs[i], ys[i], q1, q2, by simp, by simp⟩, Pv (i + 1), fun σ' H' p' => ⟨ys.length - (i + 1), by omega, rfl, hlt, p'⟩, fun x H' y => ?_⟩
    obtain ⟨t, rfl, ht, y⟩ := y
    obtain ⟨v, w, hv, hw, rfl⟩ := y xs ys q1 q2
    exact hs i v w σ H t _ hv hw p ht (same_upd ht) upd_same
  · have e : i = ys.length := by omega
    subst e
    exact .inl ⟨⟨xs, ys, q1, q2, .inr (Nat.le_refl _)⟩, hd σ H p⟩
end
section
variable {σ : St} {H : Hp} {Q : VK} {K K2 : PySem.W.Frag} {caps : List Nat} {te : TE}
theorem flat_new {a : Addr} {xs : List V} (ts : Nat → List V) (ha : H a = some (.lst xs)) (lx : xs.length ≤ 30) (lt : ∀ i, i < xs.length → (ts i).length ≤ 30)
    (hin : ∀ i x o1 H' (R : VK), xs[i]? = some x → Same H H' → (∀ p H1, H' p = none → Same H' H1 → H1 p = some (.lst (ts i)) → R (.ref p) H1) → te ([some x, o1] ++ capσ σ caps) H' R)
    (q : ∀ D H', H D = none → Same H H' → H' D = some (.lst ((List.range xs.length).flatMap ts)) → Q (.ref D) H') : Comp2J (Itl K a) 2 caps (gName 0) tYes (tEmit (iList K2 te) (gName 1) tYes (tVar 1)) σ Q H := by
  intro D hD
  have fl : ∀ i, i ≤ xs.length → ((List.range i).flatMap ts).length ≤ 30 * i := fun i => by
    induction i with
    | zero => intro _; simp
    | succ i ih =>
      intro hi
      rw [List.range_succ, List.flatMap_append, List.length_append]
      have := ih (by omega)
      have := lt i (by omega)
      have e1 : ([i].flatMap ts).length = (ts i).length := by rw [List.flatMap_cons, List.flatMap_nil, List.append_nil]
      rw [e1]; omega
  refine ⟨fun i m σ' H' => m = xs.length - i ∧ i ≤ xs.length ∧ (∃ o0 o1, σ' = [o0, o1] ++ capσ σ caps) ∧ Same H H' ∧ H' D = some (.lst ((List.range i).flatMap ts)), ⟨xs.length, by simp, Nat.zero_le _, ⟨none, none, rfl⟩, same_upd hD, upd_same⟩, ?_⟩
  rintro i m σ' H' ⟨rfl, hi, ⟨o0, o1, rfl⟩, s, hd⟩
  by_cases hlt : i < xs.length
  · obtain ⟨x, hx⟩ : ∃ x, xs[i]? = some x := ⟨xs[i], List.getElem?_eq_getElem hlt⟩
    refine .inr ⟨⟨_, x, SqL.of (s _ _ ha), hx⟩, fun x' H2 y => ?_⟩
    obtain ⟨e, y⟩ := y
    subst e
    have ex : x' = x := by
      have := y _ (SqL.of (s _ _ ha))
      rw [hx] at this
      exact (Option.some.inj this).symm
    subst ex
    refine i_gname (i_yes (iteT ?_))
    refine hin i x' o1 H2 _ hx s fun p H1 hp s1 h1 => ?_
    have hd1 := s1 _ _ hd
    have npD : p ≠ D := fun z => by rw [z, hd] at hp; cases hp
    refine ⟨p, rfl, ⟨_, SqL.of h1⟩, fun j m2 ys σ2 H3 => m2 = (ts i).length - j ∧ j ≤ (ts i).length ∧ (∃ o1, σ2 = [some x', o1] ++ capσ σ caps) ∧ Same H H3 ∧ H3 p = some (.lst (ts i)) ∧ ys = (List.range i).flatMap ts ++ (ts i).take j, ⟨_, (ts i).length, hd1, by simp, Nat.zero_le _, ⟨o1, rfl⟩, s.trans s1, h1, by simp⟩, ?_⟩
    rintro j m2 ys σ2 H3 ⟨rfl, hj, ⟨o2, rfl⟩, s3, h3p, rfl⟩ h3
    have fi := fl i hi
    have li := lt i hlt
    by_cases hj2 : j < (ts i).length
    · have hxj : (ts i)[j]? = some ((ts i)[j]'hj2) := List.getElem?_eq_getElem hj2
      refine .inr ⟨⟨_, _, SqL.of h3p, hxj⟩, fun x H4 y => ?_⟩
      obtain ⟨e, y⟩ := y
      subst e
      have ex := y _ (SqL.of h3p)
      rw [hxj] at ex
      obtain rfl := (Option.some.inj ex)
      refine i_gname (i_yes (iteT ?_))
      refine ⟨_, rfl, h3, ?_, (ts i).length - (j + 1), by omega, rfl, by omega, ⟨_, rfl⟩, same_put s3 hD, by rw [upd_ne npD]; exact h3p, ?_⟩
      · rw [List.length_append, List.length_take]
        refine Nat.lt_of_lt_of_le (m := 1000) ?_ k1000
        omega
      · rw [List.append_assoc]
        congr 1
        rw [List.take_succ, hxj]; rfl
    · have ej : j = (ts i).length := by omega
      subst ej
      refine .inl ⟨⟨_, SqL.of h3p, Nat.le_refl _⟩, xs.length - (i + 1), by omega, rfl, hlt, ⟨_, _, rfl⟩, s3, ?_⟩
      rw [h3, List.take_length, List.range_succ, List.flatMap_append]
      simp
  · have e : i = xs.length := by omega
    subst e
    exact .inl ⟨⟨_, SqL.of (s _ _ ha), Nat.le_refl _⟩, q D H' hD s hd⟩
end
end L2

namespace L2
open PySem PySem.Spec PyProof.Rows
section
variable {prog : Program} {w : World} {A : Around} {R : Result → Shared → Prop} {E : Value → Shared → Prop} {s : Shared}
end
section
variable {X : Cx}
end
end L2

namespace L2
open PySem PySem.Spec PyProof.Rows
theorem bt_reversed : bootBuiltins "reversed" = some (.type "reversed") := by decide +kernel
def Itv (K : PySem.W.Frag) (a : Addr) (xs : List V) : It := ⟨fun i H => SqL K H a xs ∧ i < xs.length, fun i H x H' => H' = H ∧ xs.reverse[i]? = some x, fun i H => i = xs.length⟩
theorem turn_rev {P : Program} {w : World} {K : PySem.W.Frag} {tg : Expr} (a it : Addr) (xs : List V) : Turn P w K tg (Itv K a xs) [it] it (fun i h => h.IsRevIter it a ((xs.length : Int) - 1 - (i : Int))) where
  mem := by simp
  obj := fun i h st b hb => by
    have e : b = it := by simpa using hb
    subst e
    obtain ⟨o, e, c, d⟩ := st
    exact ⟨o, e, fun v z => by rw [d] at z; cases z⟩
  keep := fun i h h' st k => st.at fun o e => k it (by simp) o e
  item := by
    intro X hP hw hK hc i pins s σ H E I hf st hg
    subst hP hw hK
    obtain ⟨hq, hi⟩ := hg
    obtain ⟨its, rv, p, hz⟩ := I.list hq
    have hl := rv.length
    have hx : xs[xs.length - 1 - i]? = some (xs[xs.length - 1 - i]'(by omega)) := List.getElem?_eq_getElem (by omega)
    obtain ⟨u, hu, ru⟩ := rv.get hx
    obtain ⟨f0, f1, f2, f3, f4, f5⟩ := hf it (by simp)
    have e : (xs.length : Int) - 1 - (i : Int) = ((xs.length - 1 - i : Nat) : Int) := by omega
    have st1 : s.heap.IsRevIter it a ((xs.length - 1 - i : Nat) : Int) := by rw [← e]; exact st
    refine wpAny_pyNext_rev_item st1 p.isList (x := u) (by simpa using hu) fun h' st' sb => ?_
    have I1 : Inv X pins σ H { s with heap := h' } := I.turned (t' := s.toks) (fun b o hb e => (sb.2 b hb).trans e) f0 f1 f3 f4 f5
    have st2 : h'.IsRevIter it a ((xs.length : Int) - 1 - ((i + 1 : Nat) : Int)) := by rw [show (xs.length : Int) - 1 - ((i + 1 : Nat) : Int) = ((xs.length - 1 - i : Nat) : Int) - 1 from by omega]; exact st'
    obtain ⟨o, e, c, d⟩ := id st'
    exact ⟨u, rfl, go_of (s := { s with heap := h' }) e c d (by decide) ⟨_, H, I1, ru, ⟨rfl, by rw [List.getElem?_reverse hi]; exact hx⟩, st2, fun b hb => (hf b hb).1⟩⟩
  done := by
    intro X hP hw hK hc i pins s σ H E I hf st hg
    subst hP hw hK
    have hi : i = xs.length := hg
    obtain ⟨f0, f1, f2, f3, f4, f5⟩ := hf it (by simp)
    have st1 : s.heap.IsRevIter it a (-1) := by rw [show (-1 : Int) = (xs.length : Int) - 1 - (i : Int) from by omega]; exact st
    exact wpAny_pyNext_rev_end (I.ok.hd hc) st1 fun h' eb => ⟨rfl, I.turned (t' := s.toks) (fun b o hb e => eb b o hb e) f0 f1 f3 f4 f5⟩
  self := fun _ _ _ _ _ st h => wpAny_pyIter_revIter st h
section
variable {X : Cx}
def iRev (K : PySem.W.Frag) (ta : TA) : TI := fun σ H R => ta σ H fun vs H1 => ∃ a xs, vs = [.ref a] ∧ SqL K H1 a xs ∧ R (Itv K a xs) H1
theorem pi_rev {e1 tg : Expr} {ta : TA} {p pos : Pos} (hg : Gl X "reversed") (hm : X.mg "reversed" = none) (ha : PA X [e1] ta) (hs : starEach [e1] X.env = [(false, eval e1 X.env)] := by rfl) : PI X tg (.Call (.Name "reversed" p) [e1] [] pos) (iRev X.K ta) := by
  intro pins s σ H R I h
  refine Call_ (ld_blt I hg hm bt_reversed (PyProof.Rows.callWith_type1 (thn (ha pos pins s σ H _ I h) fun us s1 ⟨vs, H1, I1, r1, q1⟩ => ?_) hs rfl))
  obtain ⟨a, xs, e, hq, q⟩ := q1
  subst e
  obtain ⟨u, rfl, ru⟩ := vals1 r1
  cases (show u = Value.ref a from ru)
  obtain ⟨its, rv, pl, hz⟩ := I1.list hq
  have hl := rv.length
  refine call_reversed_list pl.isList ?_
  have st : (s1.heap.push (revObj a ((its.toArray.size : Int) - 1))).IsRevIter s1.heap.objs.size a ((xs.length : Int) - 1 - ((0 : Nat) : Int)) := ⟨_, Heap.get?_push_size _ rfl, rfl, by rw [List.size_toArray, ← hl, show (xs.length : Int) - 1 - ((0 : Nat) : Int) = (xs.length : Int) - 1 from by omega]; rfl⟩
  refine wpAny_pyIter_revIter (s := { s1 with heap := s1.heap.push (revObj a ((its.toArray.size : Int) - 1)) }) st ?_
  refine ⟨s1.heap.objs.size, [s1.heap.objs.size], _, _, H1, rfl, I1.kept (t' := s1.toks) fun b o e => Heap.get?_push_of_some _ e, turn_rev a _ xs, st, fun b hb => ?_, q⟩
  have e : b = s1.heap.objs.size := by simpa using hb
  subst e
  exact I1.fpOk (Nat.le_refl _) (I1.hok.fresh (Nat.le_refl _))
end
section
variable {α : Type} {R : Hp → V → α → Prop} {σ : St} {H : Hp} {Q : VK} {g : TG} {tc : TT} {te : TE} {ta : TA} {K : PySem.W.Frag} {k : Nat} {caps : List Nat}
theorem i_compV (h : ta σ H fun vs H1 => ∃ a xs, vs = [.ref a] ∧ SqL K H1 a xs ∧ CompJ (Itv K a xs) k caps g tc te σ Q H1) : tComp (iRev K ta) k caps g tc te σ H Q := h
theorem comp_vR {a : Addr} {xs : List V} (G : Nat → α → Prop) (ha : H a = some (.lst xs)) (hs : ∀ D i x own H' ys as, H D = none → i < xs.length → xs.reverse[i]? = some x → own.length = k → Same H H' → H' D = some (.lst ys) → Paired (R H') ys as → as.length = i → (∀ j a, as[j]? = some a → G j a) → g x (own ++ capσ σ caps) H' fun σ3 H3 => tc σ3 H3 fun b H4 => if b = true then te σ3 H4 (YieldR R G H D σ k caps ys xs.length i σ3) else H4 D = some (.lst ys) ∧ ∃ m', m' < xs.length - i ∧ (m' = xs.length - (i + 1) ∧ i + 1 ≤ xs.length ∧ PvR R G H σ k caps (i + 1) ys σ3 H4))
    (hd : ∀ D H' ys as, H D = none → Same H H' → H' D = some (.lst ys) → Paired (R H') ys as → as.length = xs.length → (∀ j a, as[j]? = some a → G j a) → Q (.ref D) H') : CompJ (Itv K a xs) k caps g tc te σ Q H := by
  intro D hD
  refine ⟨fun i m ys σ' H' => m = xs.length - i ∧ i ≤ xs.length ∧ PvR R G H σ k caps i ys σ' H', ⟨xs.length, by simp, Nat.zero_le _, ⟨List.replicate k none, by simp, rfl⟩, same_upd hD, [], rfl, .nil, fun j a e => by simp at e⟩, ?_⟩
  rintro i m ys σ' H' ⟨rfl, hi, ⟨own, l, rfl⟩, s, as, la, hp, hG⟩ h
  by_cases hlt : i < xs.length
  · refine .inr ⟨⟨SqL.of (s _ _ ha), hlt⟩, fun x H2 y => ?_⟩
    obtain ⟨e, y⟩ := y
    subst e
    exact hs D i x own H2 ys as hD hlt y l s h hp la hG
  · have e : i = xs.length := by omega
    exact .inl ⟨e, hd D H' ys as hD s h hp (la.trans e) hG⟩
end
end L2

end
set_option maxHeartbeats 4000000
namespace T12
open PySem L2
def top (i : Nat) : Stmt := PySem.Challenge.pw_longways_k12_whole_figures_and_back.main.body.getD i (.Pass ⟨0, 0, 0, 0⟩)
abbrev s_look_spots : Stmt := top 11
abbrev s_look_way : Stmt := top 12
abbrev s_is_span : Stmt := top 13
abbrev s_ring_places : Stmt := top 14
abbrev s_still : Stmt := top 15
abbrev s_then : Stmt := top 16
abbrev s_undone : Stmt := top 17
abbrev s_numbers_fit : Stmt := top 21
abbrev s_look_call : Stmt := top 22
abbrev s_round_way : Stmt := top 23
abbrev s_cast_way : Stmt := top 24
abbrev s_exchange_places : Stmt := top 25
abbrev s_exchange_way : Stmt := top 26
abbrev s_call_way : Stmt := top 27
abbrev s_taken : Stmt := top 28
abbrev s_beats : Stmt := top 29
abbrev s_turned_call : Stmt := top 30
abbrev s_look_bar : Stmt := top 34
abbrev s_look_figure : Stmt := top 35
abbrev s_row_way : Stmt := top 36
abbrev s_bar_way : Stmt := top 37
abbrev s_bar_beats : Stmt := top 38
abbrev s_figure_way : Stmt := top 39
abbrev s_figure_beats : Stmt := top 40
abbrev s_turned : Stmt := top 41
abbrev s__law_numbers : Stmt := top 43
abbrev s__law_same : Stmt := top 44
abbrev s__law_ring : Stmt := top 45
abbrev s__law_ring_swaps : Stmt := top 46
abbrev s__law_swaps : Stmt := top 47
abbrev s__law_takes : Stmt := top 48
abbrev s__law_call : Stmt := top 49
abbrev s__law_spots : Stmt := top 50
abbrev s__law_loose_bar : Stmt := top 51
abbrev s__law_bar : Stmt := top 52
abbrev s__law_figure : Stmt := top 53
abbrev s_law : Stmt := top 54
local macro_rules | `(tactic| walk_at "hp") => `(tactic| first | assumption | exact upd_same | solve_by_elim (maxDepth := 12))
local macro_rules | `(tactic| walk_at "sm") => `(tactic| first | assumption | exact Same.refl _ | (intro b o e; solve_by_elim (maxDepth := 14)))
local macro_rules | `(tactic| walk_at "sq") => `(tactic| first | exact Or.inl (SqL.of (by walk_at "hp")) | exact Or.inr (SqT.of (by walk_at "hp")))
local macro_rules | `(tactic| walk_at "rs") => `(tactic| first | omega | decide | exact cmulL (by omega) (by omega) | exact cmulR (by omega) (by omega) | exact ⟨by decide, by decide⟩ | exact cmulL (by decide) (by decide) | exact cmulR (by decide) (by decide))
local macro_rules | `(tactic| walk_at "rc") => `(tactic| first | omega | rfl | decide +kernel | (intro z; cases z; done))
local macro_rules | `(tactic| walk_at "rd1") => `(tactic| first
  | with_reducible refine i_C ?_
  | ((with_reducible apply i_var); (focus (exact rfl)))
  | with_reducible refine i_op ?_
  | with_reducible refine i_un ?_
  | with_reducible refine i_rI0 ?_
  | ((with_reducible refine i_rI ?c ?q); focus (walk_at "rs"))
  | with_reducible refine i_rU ?_
  | with_reducible refine i_test ?_
  | with_reducible refine i_tB ?_
  | with_reducible refine i_bl ?_
  | with_reducible refine i_seq ?_
  | with_reducible refine i_ifS ?_
  | with_reducible refine i_next ?_
  | with_reducible refine i_ret ?_
  | with_reducible refine i_drop ?_
  | with_reducible refine i_asg ?_
  | with_reducible refine i_gname ?_
  | with_reducible refine i_cons ?_
  | with_reducible refine i_nil ?_
  | with_reducible refine i_call ?_
  | with_reducible refine i_CB ?_
  | with_reducible refine i_chain ?_
  | with_reducible refine i_chain3 ?_
  | with_reducible refine i_if ?_
  | with_reducible refine i_and ?_
  | with_reducible refine i_or ?_
  | with_reducible refine i_not ?_
  | with_reducible refine i_andV ?_
  | with_reducible refine i_orV ?_
  | with_reducible refine i_notV ?_
  | with_reducible refine i_tup ?_
  | with_reducible refine i_lst ?_
  | with_reducible refine i_sl ?_
  | with_reducible refine i_nopart ?_
  | with_reducible refine i_part ?_
  | with_reducible refine i_int ?_
  | with_reducible refine i_abs ?_
  | with_reducible refine i_forL ?_
  | with_reducible refine i_for1 ?_
  | with_reducible refine i_bm ?_
  | ((with_reducible apply i_tyL); (focus (walk_at "hp")))
  | with_reducible refine i_kget ?_
  | with_reducible refine i_keyS ?_
  | with_reducible refine i_isN ?_
  | ((with_reducible refine rd_eq ?e ?q); (focus (exact rfl)))
  | ((with_reducible refine rd_ne ?e ?q); (focus (exact rfl)))
  | ((with_reducible apply rd_ixT); (focus (walk_at "hp")); (focus (exact rfl)))
  | ((with_reducible apply rd_ixL); (focus (walk_at "hp")); (focus (first | assumption | exact rfl)))
  | ((with_reducible refine i_new ?c ?q); (focus (exact Nat.le_trans (Nat.le_of_ble_eq_true rfl) k1000)); intro p H' hp hs he)
  | ((with_reducible apply rd_inT); (focus (walk_at "hp")); (focus (exact rfl)); (focus (exact rfl)))
  | ((with_reducible apply rd_inL); (focus (walk_at "hp")); (focus (exact rfl)); (focus (exact rfl)))
  | ((with_reducible apply i_truT); (focus (walk_at "hp")))
  | ((with_reducible apply i_truL); (focus (walk_at "hp")))
  | ((with_reducible apply i_sum0); (focus (walk_at "hp")); (focus (walk_at "hp")))
  | ((with_reducible apply i_sum1); (focus (walk_at "hp")); (focus (walk_at "hp")); (focus (walk_at "hp")))
  | ((with_reducible refine i_rng2 ?q); intro p H' hp hs he)
  | ((with_reducible refine i_rng1 ?q); intro p H' hp hs he)
  | ((with_reducible apply i_listR); (focus (walk_at "hp")); (focus (omega)); intro p H' hp hs he)
  | ((with_reducible apply i_len); (focus (walk_at "sq")))
  | ((with_reducible apply i_listL); (focus (walk_at "sq")); intro p H' hp hs he)
  | ((with_reducible apply i_slL); (focus (walk_at "hp")); intro p H' hp hs he)
  | ((with_reducible apply i_cat); (focus (walk_at "hp")); (focus (walk_at "hp")); (focus (exact Nat.le_trans (Nat.le_of_ble_eq_true rfl) k1000)); intro p H' hp hs he)
  | ((with_reducible refine ifT ?c ?q); focus (walk_at "rc"))
  | ((with_reducible refine ifF ?c ?q); focus (walk_at "rc"))
  | ((with_reducible refine ifNT ?c ?q); focus (walk_at "rc"))
  | ((with_reducible refine ifNF ?c ?q); focus (walk_at "rc"))
  | with_reducible refine iteT ?_
  | with_reducible refine iteF ?_
  | ((with_reducible refine ifB ?c ?q); focus (first | rfl | decide +kernel))
  | ((with_reducible refine ifBF ?c ?q); focus (first | rfl | decide +kernel)))
local macro_rules | `(tactic| walk_at "rd") => `(tactic| repeat' (walk_at "rd1"))
local macro_rules | `(tactic| walk_at "ty") => `(tactic| first | exact TyOf.non | exact TyOf.bl _ | exact TyOf.int _ | exact TyOf.str _ | exact TyOf.lst (by walk_at "hp") | exact TyOf.tup (by walk_at "hp"))
local macro_rules | `(tactic| walk_at "rd1") => `(tactic| first
  | with_reducible refine i_comp1 ?_
  | with_reducible refine i_comp2 ?_
  | with_reducible refine i_yes ?_
  | ((with_reducible apply i_isi1); (focus (walk_at "ty")); (focus (exact rfl)))
  | ((with_reducible apply (i_isi2 ["list", "tuple"])); (focus (walk_at "ty")); (focus (walk_at "hp")); (focus (exact rfl)))
  | with_reducible refine i_eqr ?_)
local macro_rules | `(tactic| walk_at "rs") => `(tactic| exact ⟨by omega, by omega⟩)
local macro_rules | `(tactic| walk_at "rd1") => `(tactic| first
  | with_reducible refine i_max2 ?_
  | with_reducible refine i_min2 ?_
  | with_reducible refine i_forE ?_
  | with_reducible refine i_for2 ?_
  | with_reducible refine i_for3 ?_
  | with_reducible refine i_forT ?_
  | ((with_reducible apply i_gtup); (focus (walk_at "hp")); (focus (exact rfl)))
  | with_reducible refine i_gcons ?_
  | with_reducible refine i_gnil ?_
  | with_reducible refine i_gsub ?_
  | with_reducible refine i_setC ?_
  | with_reducible refine i_compL ?_
  | with_reducible refine i_comp3 ?_
  | with_reducible refine i_rev ?_
  | ((with_reducible apply i_rRev); (focus (walk_at "hp")); intro p H' hp hs he)
  | ((with_reducible apply i_aug); (focus (exact rfl)))
  | with_reducible refine i_ipI ?_)
local macro_rules | `(tactic| walk_at "rd1") => `(tactic| first
  | ((with_reducible apply i_slT); (focus (walk_at "hp")); (focus (exact fun z => absurd z.1 (by show ¬ ((1 : Nat) = 0); decide))); intro p H' hp hs he)
  | ((with_reducible apply i_slT); (focus (walk_at "hp")); (focus (exact fun z => absurd z.2 (by show ¬ ((3 : Nat) = 4); decide))); intro p H' hp hs he))
local macro_rules | `(tactic| walk_at "rd1") => `(tactic| ((with_reducible apply i_glst); (focus (walk_at "hp")); (focus (exact rfl))))
local macro_rules | `(tactic| walk_at "rd1") => `(tactic| first | with_reducible refine i_intB ?_ | with_reducible refine i_intI ?_)
def counts : List (Key × V) := [(Sum.inr "ring", .int 3), (Sum.inr "chain", .int 3), (Sum.inr "cross", .int 1), (Sum.inr "pass", .int 2), (Sum.inr "corner", .int 2), (Sum.inr "cast", .int 2), (Sum.inr "lead", .int 2), (Sum.inr "stand", .int 1)]
structure Txt (P : Program) (w : World) (K : PySem.W.Frag) (mg : Str → Option Value) : Prop where
  n_isinstance : mg "isinstance" = none
  n_list : mg "list" = none
  n_tuple : mg "tuple" = none
  n_len : mg "len" = none
  n_all : mg "all" = none
  n_range : mg "range" = none
  n_bool : mg "bool" = none
  n_str : mg "str" = none
  n_int : mg "int" = none
  n_abs : mg "abs" = none
  n_sorted : mg "sorted" = none
  n_enumerate : mg "enumerate" = none
  n_sum : mg "sum" = none
  n_max : mg "max" = none
  n_any : mg "any" = none
  n_zip : mg "zip" = none
  n_reversed : mg "reversed" = none
  c_FEWEST_SPOTS : ∃ t, mg "FEWEST_SPOTS" = some (.int 2 t)
  c_MOST_SPOTS : ∃ t, mg "MOST_SPOTS" = some (.int 6 t)
  c_MOST_MANY : ∃ t, mg "MOST_MANY" = some (.int 64 t)
  c_MOST_CALLS : ∃ t, mg "MOST_CALLS" = some (.int 4 t)
  c_MOST_BARS : ∃ t, mg "MOST_BARS" = some (.int 16 t)
  cnt : ∃ a, mg "COUNTS" = some (.ref a) ∧ KDict P w K a counts

theorem k10000 : 10000 ≤ sizeLine := by rw [sizeLine_eq]; decide
def Sm (rs : List Int) : Prop := ∀ x ∈ rs, 0 ≤ x ∧ x < 9967
theorem Sm.nil : Sm [] := fun x h => by simp at h
theorem Sm.snoc {rs : List Int} {z : Int} (h : Sm rs) (h0 : 0 ≤ z) (h1 : z < 9967) : Sm (rs ++ [z]) := fun x hx => by
  rcases List.mem_append.mp hx with y | y
  · exact h x y
  · obtain rfl : x = z := by simpa using y
    exact ⟨h0, h1⟩
theorem Sm.take {rs : List Int} (n : Nat) (h : Sm rs) : Sm (rs.take n) := fun x hx => h x (List.mem_of_mem_take hx)
theorem Sm.drop {rs : List Int} (n : Nat) (h : Sm rs) : Sm (rs.drop n) := fun x hx => h x (List.mem_of_mem_drop hx)
def spNum (K : PySem.W.Frag) : Sp := fun vs H Q _ => ∃ (a : Addr) (ns : List Int) (n : Int), vs = [.ref a, .int n] ∧ SqL K H a (ns.map V.int) ∧ 0 ≤ n ∧ n ≤ 1000 ∧
  ∀ p H' (ms : List Int), Same H H' → H' p = some (.lst (ms.map V.int)) → (ms.length : Int) = n → Sm ms → Q (.ref p) H'
theorem map_snoc (ms : List Int) (z : Int) : ms.map V.int ++ [V.int z] = (ms ++ [z]).map V.int := by simp
theorem cutInts (ns : List Int) (lo hi : Option Int) : ∃ ms : List Int, cutV (ns.map V.int) lo hi = ms.map V.int ∧ ms.length ≤ ns.length := by
  unfold cutV
  generalize HT.sIx (List.map V.int ns).length (List.map V.int ns).length hi - HT.sIx (List.map V.int ns).length 0 lo = x
  generalize HT.sIx (List.map V.int ns).length 0 lo = y
  exact ⟨(ns.drop y).take x, by rw [List.map_take, List.map_drop], by rw [List.length_take, List.length_drop]; omega⟩
theorem cut_to (ns : List Int) {n : Int} (h : 0 ≤ n) : cutV (ns.map V.int) none (some n) = (ns.take n.toNat).map V.int := by
  unfold cutV HT.sIx
  dsimp only
  rw [if_neg (by omega), List.drop_zero, Nat.sub_zero, List.map_take, List.take_eq_take_iff]
  omega
theorem six63 (n : Nat) : HT.sIx n n (some 63) ≤ 63 := by
  unfold HT.sIx
  dsimp only
  rw [if_neg (by decide)]
  exact Nat.min_le_left _ _
section
variable {P : Program} {w : World} {K : PySem.W.Frag} {mg : Str → Option Value} {base : Heap}
theorem sc__law_numbers : FnScope ["_law_script", "_law_many", "_law_row", "_law_seed", "_law_cell", "_law_rest", "_law_k"] ["_law_script", "_law_many"] (defScope s__law_numbers) := ⟨rfl, rfl, rfl, by decide +kernel, rfl, by decide +kernel, by decide +kernel⟩
theorem ok__law_numbers {f : Addr} {fd : FuncData} (F : Fun K "_law_numbers" "_law_numbers" s__law_numbers f fd) (T : Txt P w K mg)   : FnOk P w K mg base CX0 (0 + 1) f fd ["_law_script", "_law_many"] (spNum K) := by
  refine F.ok sc__law_numbers (fun vs H Q E h => ?_) (fun cdv A outer s H vs Q E hr h => ?_)
  · obtain ⟨a, ns, n, rfl, _⟩ := h
    rfl
  · obtain ⟨a, ns, n, rfl, hS, hn0, hn1, k⟩ := h
    refine ⟨_, (pss_cons (ps_set (i := 2) sc__law_numbers.nd rfl (Or.inl rfl) (pe_lst pa_nil))
      (pss_cons (ps_set (i := 3) sc__law_numbers.nd rfl (Or.inl rfl) pe_int)
      (pss_cons (ps_for PassesOwn.never rfl (pi_list (pe_slice sl_list (pv 0) po_none (po_some pe_int))) (pg_name (i := 4) sc__law_numbers.nd rfl (Or.inl rfl))
      (pss_cons (ps_set (i := 3) sc__law_numbers.nd rfl (Or.inl rfl) (pe_op op_mod (pe_op op_add (pe_op op_add (pe_op op_mul (pv 3) pe_int) (pe_op op_mod (pv 4) pe_int)) pe_int) pe_int))
      (pss_cons (ps_set (i := 5) sc__law_numbers.nd rfl (Or.inl rfl) (pe_op op_sub (pv 4) (pe_op op_pow pe_int pe_int)))
      (pss_cons (ps_if (pt_cmpR op_lt (pv 5) pe_int (nomark _))
      (pss_one (ps_expr (pe_bm PySem.F.plainAttrs_list PySem.F.slot_list_append PySem.F.type_list_append mt_append (pv 2) (pa_cons (pe_op op_mod (pv 4) pe_int) pa_nil))))
      pss_nil)
      (pss_one (ps_for PassesOwn.never rfl (pi_range1 rfl T.n_range (pa_cons pe_int pa_nil)) (pg_name (i := 6) sc__law_numbers.nd rfl (Or.inl rfl))
      (pss_one (ps_if (pt_cmpR op_gt (pv 5) pe_int (nomark _))
      (pss_cons (ps_expr (pe_bm PySem.F.plainAttrs_list PySem.F.slot_list_append PySem.F.type_list_append mt_append (pv 2) (pa_cons (pe_op op_mod (pv 5) pe_int) pa_nil)))
      (pss_one (ps_set (i := 5) sc__law_numbers.nd rfl (Or.inl rfl) (pe_op op_fdiv (pv 5) pe_int))))
      pss_nil))))))))
      (pss_cons (ps_while PassesOwn.never (pt_cmpR op_lt (pe_callB cl_len (by rfl) T.n_len PySem.boot_len (pa_cons (pv 2) pa_nil)) (pv 1) (nomark _))
      (pss_cons (ps_set (i := 3) sc__law_numbers.nd rfl (Or.inl rfl) (pe_op op_mod (pe_op op_add (pe_op op_add (pe_op op_add (pe_op op_mul (pv 3) (pv 3)) (pe_op op_mul pe_int (pv 3))) (pe_op op_mul pe_int (pe_callB cl_len (by rfl) T.n_len PySem.boot_len (pa_cons (pv 2) pa_nil)))) pe_int) pe_int))
      (pss_one (ps_expr (pe_bm PySem.F.plainAttrs_list PySem.F.slot_list_append PySem.F.type_list_append mt_append (pv 2) (pa_cons (pe_op op_mod (pe_op op_fdiv (pv 3) pe_int) pe_int) pa_nil))))))
      (pss_one (ps_ret (pe_slice sl_list (pv 2) po_none (po_some (pv 1))))))))), ?_⟩
    walk_at "rd"
    rename_i p H1 hp1 hs1 he1
    -- the loop over the script
    obtain ⟨ms, ems, lms⟩ := cutInts ns none (some 63)
    have l63 : ms.length ≤ 63 := by
      have e := congrArg List.length ems
      rw [List.length_map] at e
      rw [← e]
      unfold cutV
      rw [List.length_take]
      have := six63 (List.map V.int ns).length
      omega
    refine i_slS (hs1.seq hS) fun q H2 hq2 hs2 he2 => ?_
    rw [ems] at he2
    have hpq : p ≠ q := ne_of_none he1 hq2
    have hp0 : H p = none := hp1
    have hq0 : H q = none := hs1.free hq2
    refine ⟨q, rfl, ⟨_, SqL.of he2⟩, for_l (xs := ms.map V.int) (fun i σ H3 => ∃ (rs : List Int) (seed : Int) (c r kk : Option V), σ = [some (.ref a), some (.int n), some (.ref p), some (.int seed), c, r, kk] ∧ Same H H3 ∧ H3 q = some (.lst (ms.map V.int)) ∧
      H3 p = some (.lst (rs.map V.int)) ∧ rs.length ≤ 61 * i ∧ 0 ≤ seed ∧ seed < 4294967296 ∧ Sm rs)
      ⟨[], 71, none, none, none, rfl, hs1.trans hs2, he2, hs2 _ _ he1, Nat.zero_le _, by decide, by decide, Sm.nil⟩ (fun i σ H3 _ ⟨_, _, _, _, _, _, _, h4, _⟩ => SqL.of h4) ?_ ?_⟩
    · rintro i y σ H3 hi ⟨rs, seed, c, r, kk, rfl, s3, h3q, h3p, lrs, sd0, sd1, sm3⟩
      have him : i < 63 := by
        have := (List.getElem?_eq_some_iff.mp hi).1
        rw [List.length_map] at this
        omega
      obtain ⟨z, rfl⟩ : ∃ z, y = V.int z := by
        rw [List.getElem?_map] at hi
        cases e : ms[i]? with
        | none => rw [e] at hi; cases hi
        | some z => rw [e] at hi; exact ⟨z, (Option.some.inj hi).symm⟩
      walk_at "rd"
      generalize hsd : (seed * 40692 + z % 999961 + 31) % 2147483399 = seed'
      have sd2 : 0 ≤ seed' ∧ seed' < 4294967296 := by rw [← hsd]; omega
      generalize hrt : z - 10 ^ Int.toNat 18 = rest
      refine ite2 (fun c1 => ?_) (fun c1 => ?_)
      · walk_at "rd"
        refine i_app2 h3p (Nat.lt_of_lt_of_le (by rw [List.length_map]; omega : _ < 10000) k10000) fun H4 h4p h4o => ?_
        have s4 : Same H H4 := fun b o e => h4o b o (ne_of_none e hp0) (s3 b o e)
        have h4q := h4o q _ hpq.symm h3q
        rw [map_snoc] at h4p
        have l4 : (rs ++ [z % 9967]).length ≤ 61 * i + 1 := by rw [List.length_append]; simp; omega
        have sm4 : Sm (rs ++ [z % 9967]) := sm3.snoc (by omega) (by omega)
        generalize rs ++ [z % 9967] = rs' at h4p l4 sm4
        walk_at "rd"
        refine ⟨by decide, by decide, for_r (fun j σ H5 => ∃ (rs5 : List Int) (rt5 : Int) (kk : Option V), σ = [some (.ref a), some (.int n), some (.ref p), some (.int seed'), some (.int z), some (.int rt5), kk] ∧ Same H H5 ∧ H5 q = some (.lst (ms.map V.int)) ∧
          H5 p = some (.lst (rs5.map V.int)) ∧ rs5.length ≤ 61 * i + 1 + j ∧ Sm rs5) ⟨rs', rest, _, rfl, s4, h4q, h4p, l4, sm4⟩ ?_ ?_⟩
        · rintro j σ H5 hj ⟨rs5, rt5, kk5, rfl, s5, h5q, h5p, l5, sm5⟩
          have hj' : j < 60 := hj
          walk_at "rd"
          refine ite2 (fun c2 => ?_) (fun c2 => ?_)
          · walk_at "rd"
            refine i_app2 h5p (Nat.lt_of_lt_of_le (by rw [List.length_map]; omega : _ < 10000) k10000) fun H6 h6p h6o => ?_
            have s6 : Same H H6 := fun b o e => h6o b o (ne_of_none e hp0) (s5 b o e)
            have h6q := h6o q _ hpq.symm h5q
            rw [map_snoc] at h6p
            walk_at "rd"
            exact ⟨_, _, _, rfl, s6, h6q, h6p, by rw [List.length_append]; simp; omega, sm5.snoc (by omega) (by omega)⟩
          · walk_at "rd"
            exact ⟨_, _, _, rfl, s5, h5q, h5p, by omega, sm5⟩
        · rintro σ H5 ⟨rs5, rt5, kk5, rfl, s5, h5q, h5p, l5, sm5⟩
          exact ⟨rs5, seed', _, _, _, rfl, s5, h5q, h5p, by have : (60 : Int).toNat = 60 := rfl; omega, sd2.1, sd2.2, sm5⟩
      · have s4 := s3
        have h4q := h3q
        have h4p := h3p
        have l4 : rs.length ≤ 61 * i + 1 := by omega
        have sm4 := sm3
        generalize rs = rs' at h4p l4 sm4
        generalize H3 = H4 at h4q h4p s4
        walk_at "rd"
        refine ⟨by decide, by decide, for_r (fun j σ H5 => ∃ (rs5 : List Int) (rt5 : Int) (kk : Option V), σ = [some (.ref a), some (.int n), some (.ref p), some (.int seed'), some (.int z), some (.int rt5), kk] ∧ Same H H5 ∧ H5 q = some (.lst (ms.map V.int)) ∧
          H5 p = some (.lst (rs5.map V.int)) ∧ rs5.length ≤ 61 * i + 1 + j ∧ Sm rs5) ⟨rs', rest, _, rfl, s4, h4q, h4p, l4, sm4⟩ ?_ ?_⟩
        · rintro j σ H5 hj ⟨rs5, rt5, kk5, rfl, s5, h5q, h5p, l5, sm5⟩
          have hj' : j < 60 := hj
          walk_at "rd"
          refine ite2 (fun c2 => ?_) (fun c2 => ?_)
          · walk_at "rd"
            refine i_app2 h5p (Nat.lt_of_lt_of_le (by rw [List.length_map]; omega : _ < 10000) k10000) fun H6 h6p h6o => ?_
            have s6 : Same H H6 := fun b o e => h6o b o (ne_of_none e hp0) (s5 b o e)
            have h6q := h6o q _ hpq.symm h5q
            rw [map_snoc] at h6p
            walk_at "rd"
            exact ⟨_, _, _, rfl, s6, h6q, h6p, by rw [List.length_append]; simp; omega, sm5.snoc (by omega) (by omega)⟩
          · walk_at "rd"
            exact ⟨_, _, _, rfl, s5, h5q, h5p, by omega, sm5⟩
        · rintro σ H5 ⟨rs5, rt5, kk5, rfl, s5, h5q, h5p, l5, sm5⟩
          exact ⟨rs5, seed', _, _, _, rfl, s5, h5q, h5p, by have : (60 : Int).toNat = 60 := rfl; omega, sd2.1, sd2.2, sm5⟩
    · rintro σ H3 ⟨rs, seed, c, r, kk, rfl, s3, h3q, h3p, lrs, sd0, sd1, sm3⟩
      have lrs' : rs.length ≤ 61 * 63 := by rw [List.length_map] at lrs; omega
      refine while_by (fun σ H4 => ∃ (rs : List Int) (seed : Int), σ = [some (.ref a), some (.int n), some (.ref p), some (.int seed), c, r, kk] ∧ Same H H4 ∧ H4 p = some (.lst (rs.map V.int)) ∧ rs.length ≤ 5000 ∧ 0 ≤ seed ∧ seed < 4294967296 ∧ Sm rs)
        (fun _ H4 => match H4 p with | some (.lst xs) => n.toNat - xs.length | _ => 0) ⟨rs, seed, rfl, s3, h3p, by omega, sd0, sd1, sm3⟩ ?_ ?_
      · rintro σ H4 ⟨rs4, seed4, rfl, s4, h4p, l4, d0, d1, sm4⟩
        walk_at "rd"
        refine ite2 (fun c1 => ?_) (fun c1 => ?_)
        · walk_at "rd"
          have c1' := of_decide_eq_true c1
          rw [List.length_map] at c1'
          refine i_app2 h4p (Nat.lt_of_lt_of_le (by rw [List.length_map]; omega : _ < 10000) k10000) fun H6 h6p h6o => ?_
          have s6 : Same H H6 := fun b o e => h6o b o (ne_of_none e hp0) (s4 b o e)
          rw [map_snoc] at h6p
          generalize hv : (seed4 * seed4 + 48271 * seed4 + 17 * ((List.map V.int rs4).length : Int) + 5) % 2147483629 = sd at *
          refine ⟨⟨_, sd, rfl, s6, h6p, by rw [List.length_append]; simp; omega, by rw [← hv]; omega, by rw [← hv]; omega, sm4.snoc (by omega) (by omega)⟩, ?_⟩
          rw [h6p, h4p]
          simp only [List.length_map, List.length_append, List.length_singleton]
          omega
        · walk_at "rd"
          rename_i p5 H5 hp5 hs5 he5
          have c1' : ¬ ((rs4.length : Int) < n) := fun z => c1 (decide_eq_true (by rw [List.length_map]; exact z))
          rw [cut_to rs4 hn0] at he5
          exact k _ _ _ (s4.trans hs5) he5 (by rw [List.length_take]; omega) (sm4.take _)
      · rintro σ H4 Q1 Q2 hQ ⟨v, h1, p1, ys, h2, h3, v2, h4, i1, j1, h5, h6, k1, h7, q1⟩
        exact ⟨v, h1, p1, ys, h2, h3, v2, h4, i1, j1, h5, h6, k1, h7, hQ _ _ q1⟩
end

def spSame (n : Nat) : Sp := fun vs H Q _ => ∃ d x y, vs = [x, y] ∧ Den H n d x ∧ Den H n d y ∧ ∀ H', Same H H' → Q (.bl true) H'
theorem rd_same {H : Hp} {Q : VK} {E : XK} {n : Nat} {d : D} {x y : V} (h1 : Den H n d x) (h2 : Den H n d y) (q : ∀ H', Same H H' → Q (.bl true) H') : spSame n [x, y] H Q E := ⟨d, x, y, rfl, h1, h2, q⟩
section
variable {P : Program} {w : World} {K : PySem.W.Frag} {mg : Str → Option Value} {base : Heap}
theorem sc__law_same : FnScope ["_law_found", "_law_due"] ["_law_found", "_law_due"] (defScope s__law_same) := ⟨rfl, rfl, rfl, by decide +kernel, rfl, by decide +kernel, by decide +kernel⟩
theorem ok__law_same {f : Addr} {fd : FuncData} (F : Fun K "_law_same" "_law_same" s__law_same f fd) (T : Txt P w K mg) (n : Nat) (F__law_same : FnAt P w K mg base "_law_same" n (spSame n)) : FnOk P w K mg base CX0 (n + 1) f fd ["_law_found", "_law_due"] (spSame (n + 1)) := by
  refine F.ok sc__law_same (fun vs H Q E h => ?_) (fun cdv A outer s H vs Q E hr h => ?_)
  · obtain ⟨d, x, y, rfl, _⟩ := h
    rfl
  · obtain ⟨d, x, y, rfl, hx, hy, k⟩ := h
    refine ⟨_, (pss_cons (ps_if (pt_cmpR op_isN (pv 1) pe_non (nomark _))
      (pss_one (ps_ret (pe_cmpR op_isN (pv 0) pe_non (nomark _))))
      pss_nil)
      (pss_cons (ps_if (pt_val (pe_callB call_isi (by rfl) T.n_isinstance bt_isinstance (pa_cons (pv 1) (pa_cons (pe_tup (pa_cons (pe_ty bt_list T.n_list) (pa_cons (pe_ty bt_tuple T.n_tuple) pa_nil))) pa_nil))))
      (pss_cons (ps_if ((pw_or (pt_cmpR op_ne (pe_callB call_isi (by rfl) T.n_isinstance bt_isinstance (pa_cons (pv 0) (pa_cons (pe_ty bt_list T.n_list) pa_nil))) (pe_callB call_isi (by rfl) T.n_isinstance bt_isinstance (pa_cons (pv 1) (pa_cons (pe_ty bt_list T.n_list) pa_nil))) (nomark _)) (pw_or1 (pt_cmpR op_ne (pe_callB call_isi (by rfl) T.n_isinstance bt_isinstance (pa_cons (pv 0) (pa_cons (pe_ty bt_tuple T.n_tuple) pa_nil))) (pe_callB call_isi (by rfl) T.n_isinstance bt_isinstance (pa_cons (pv 1) (pa_cons (pe_ty bt_tuple T.n_tuple) pa_nil))) (nomark _))))).pt
      (pss_one (ps_ret pe_bl))
      pss_nil)
      (pss_one (ps_ret (pe_and (pe_cmpR op_eq (pe_callB cl_len (by rfl) T.n_len PySem.boot_len (pa_cons (pv 0) pa_nil)) (pe_callB cl_len (by rfl) T.n_len PySem.boot_len (pa_cons (pv 1) pa_nil)) (nomark _)) (pe_one (pe_callB (cl_all rfl) (by rfl) T.n_all bt_all (pa_cons (pe_comp (N := ["_law_k", "_law_found", "_law_due"]) (k := 1) (caps := [0, 1]) rfl (compOk_of ["_law_found", "_law_due"] (defScope s__law_same).names (by decide +kernel)) (pi_range1 rfl T.n_range (pa_cons (pe_callB cl_len (by rfl) T.n_len PySem.boot_len (pa_cons (pv 1) pa_nil)) pa_nil)) (fun _ _ _ _ => (pg_name (i := 0) (show List.Nodup (["_law_k", "_law_found", "_law_due"] : List Str) by decide +kernel) rfl (Or.inl rfl))) (fun _ _ _ _ => pcs_nil) (fun _ _ _ _ => (pe_fn F__law_same (hr.mono (by omega)) (pa_cons (pe_ix (kIx (r := rIx) (K := K) ix_seq rfl) (pv 1) (pv 0) (fun _ _ => rfl)) (pa_cons (pe_ix (kIx (r := rIx) (K := K) ix_seq rfl) (pv 2) (pv 0) (fun _ _ => rfl)) pa_nil))))) pa_nil)))))))
      pss_nil)
      (pss_cons (ps_if ((pw_or (pt_cmpR op_ne (pe_callB call_isi (by rfl) T.n_isinstance bt_isinstance (pa_cons (pv 0) (pa_cons (pe_ty bt_bool T.n_bool) pa_nil))) (pe_callB call_isi (by rfl) T.n_isinstance bt_isinstance (pa_cons (pv 1) (pa_cons (pe_ty bt_bool T.n_bool) pa_nil))) (nomark _)) (pw_or1 (pt_cmpR op_ne (pe_callB call_isi (by rfl) T.n_isinstance bt_isinstance (pa_cons (pv 0) (pa_cons (pe_ty bt_str T.n_str) pa_nil))) (pe_callB call_isi (by rfl) T.n_isinstance bt_isinstance (pa_cons (pv 1) (pa_cons (pe_ty bt_str T.n_str) pa_nil))) (nomark _))))).pt
      (pss_one (ps_ret pe_bl))
      pss_nil)
      (pss_one (ps_ret (pe_and (pe_cmpR op_eq (pe_callB call_isi (by rfl) T.n_isinstance bt_isinstance (pa_cons (pv 0) (pa_cons (pe_ty bt_int T.n_int) pa_nil))) (pe_callB call_isi (by rfl) T.n_isinstance bt_isinstance (pa_cons (pv 1) (pa_cons (pe_ty bt_int T.n_int) pa_nil))) (nomark _)) (pe_one (pe_cmpR op_eq (pv 0) (pv 1) (nomark _))))))))), ?_⟩
    cases d with
    | non =>
      obtain rfl : x = .non := hx
      obtain rfl : y = .non := hy
      walk_at "rd"
      exact k _ (by walk_at "sm")
    | bl b =>
      obtain rfl : x = .bl b := hx
      obtain rfl : y = .bl b := hy
      walk_at "rd"
      exact fin_dec rfl (k _ (by walk_at "sm"))
    | int i =>
      obtain rfl : x = .int i := hx
      obtain rfl : y = .int i := hy
      walk_at "rd"
      exact fin_dec rfl (k _ (by walk_at "sm"))
    | str z =>
      obtain rfl : x = .str z := hx
      obtain rfl : y = .str z := hy
      walk_at "rd"
      exact fin_dec rfl (k _ (by walk_at "sm"))
    | lst ds =>
      obtain ⟨a, xs, rfl, ha, la, px⟩ := hx
      obtain ⟨b, ys, rfl, hb, lb, py⟩ := hy
      have ex : ds.length = xs.length := px.length
      have ey : ds.length = ys.length := py.length
      walk_at "rd"
      refine ifT (by rw [← ex, ← ey]) ?_
      walk_at "rd"
      rename_i p1 H1 hp1 hs1 he1
      refine ⟨by omega, by omega, comp_r fun D hD => ?_⟩
      have hD0 : H D = none := hs1.free hD
      have s0 : Same H (upd H1 D (.lst [])) := hs1.trans (same_upd hD)
      refine ⟨fun i zs σ' H' => ∃ kk, σ' = [kk, some (.ref a), some (.ref b)] ∧ zs = List.replicate i (.bl true) ∧ Same H H', ⟨none, rfl, rfl, s0⟩, ?_, ?_⟩
      · rintro i zs σ' H' hi ⟨kk, rfl, rfl, s'⟩ hl
        have hi' : i < ys.length := by simpa using hi
        obtain ⟨d1, v1, e1, f1, g1⟩ := paired_at px (i := i) (by omega)
        obtain ⟨d2, v2, e2, f2, g2⟩ := paired_at py (i := i) (by omega)
        have ed : d1 = d2 := by rw [e1] at e2; exact Option.some.inj e2
        subst ed
        have zi : (0 : Int) + (i : Int) = (i : Int) := by omega
        rw [zi]
        walk_at "rd"
        refine i_ixSeqL (s' _ _ ha) (atI_nat f1) ?_
        walk_at "rd"
        refine i_ixSeqL (s' _ _ hb) (atI_nat f2) ?_
        walk_at "rd"
        refine rd_same (g1.mono s') (g2.mono s') fun H5 s5 => ?_
        refine yield_ok (s5 _ _ hl) (by rw [List.length_replicate]; exact Nat.lt_of_lt_of_le (by omega : i < 1000) k1000) hi ⟨_, rfl, by rw [List.replicate_succ'], same_put (s'.trans s5) hD0⟩
      · rintro zs σ' H' ⟨kk, rfl, rfl, s'⟩ hl
        walk_at "rd"
        refine i_all (List.replicate ((ys.length : Int)).toNat true) (by rw [List.map_replicate]; exact hl) ?_
        refine fin_tt (by simp) ?_
        exact k _ s'
    | tup ds =>
      obtain ⟨a, xs, rfl, ha, la, px⟩ := hx
      obtain ⟨b, ys, rfl, hb, lb, py⟩ := hy
      have ex : ds.length = xs.length := px.length
      have ey : ds.length = ys.length := py.length
      walk_at "rd"
      refine ifT (by rw [← ex, ← ey]) ?_
      walk_at "rd"
      rename_i p1 H1 hp1 hs1 he1
      refine ⟨by omega, by omega, comp_r fun D hD => ?_⟩
      have hD0 : H D = none := hs1.free hD
      have s0 : Same H (upd H1 D (.lst [])) := hs1.trans (same_upd hD)
      refine ⟨fun i zs σ' H' => ∃ kk, σ' = [kk, some (.ref a), some (.ref b)] ∧ zs = List.replicate i (.bl true) ∧ Same H H', ⟨none, rfl, rfl, s0⟩, ?_, ?_⟩
      · rintro i zs σ' H' hi ⟨kk, rfl, rfl, s'⟩ hl
        have hi' : i < ys.length := by simpa using hi
        obtain ⟨d1, v1, e1, f1, g1⟩ := paired_at px (i := i) (by omega)
        obtain ⟨d2, v2, e2, f2, g2⟩ := paired_at py (i := i) (by omega)
        have ed : d1 = d2 := by rw [e1] at e2; exact Option.some.inj e2
        subst ed
        have zi : (0 : Int) + (i : Int) = (i : Int) := by omega
        rw [zi]
        walk_at "rd"
        refine i_ixSeqT (s' _ _ ha) (atI_nat f1) ?_
        walk_at "rd"
        refine i_ixSeqT (s' _ _ hb) (atI_nat f2) ?_
        walk_at "rd"
        refine rd_same (g1.mono s') (g2.mono s') fun H5 s5 => ?_
        refine yield_ok (s5 _ _ hl) (by rw [List.length_replicate]; exact Nat.lt_of_lt_of_le (by omega : i < 1000) k1000) hi ⟨_, rfl, by rw [List.replicate_succ'], same_put (s'.trans s5) hD0⟩
      · rintro zs σ' H' ⟨kk, rfl, rfl, s'⟩ hl
        walk_at "rd"
        refine i_all (List.replicate ((ys.length : Int)).toNat true) (by rw [List.map_replicate]; exact hl) ?_
        refine fin_tt (by simp) ?_
        exact k _ s'
theorem ok_same {f : Addr} {fd : FuncData} (F : Fun K "_law_same" "_law_same" s__law_same f fd) (T : Txt P w K mg) (bb : Binds K fd ["_law_found", "_law_due"] []) (hm : mg "_law_same" = some (.ref f)) (hk : PySem.W.keepIn K (.ref f) = true) : ∀ n, FnOk P w K mg base CX0 n f fd ["_law_found", "_law_due"] (spSame n)
  | 0 => ⟨fun vs H Q E h => by obtain ⟨d, x, y, rfl, _⟩ := h; rfl, fun A outer s H args us vs Q E hr e0 hb r h => by obtain ⟨d, x, y, rfl, h1, _⟩ := h; exact h1.elim⟩
  | n + 1 => ok__law_same F T n ⟨f, fd, _, ok_same F T bb hm hk n, bb, hm, hk⟩
end


inductive Call where
  | ring (f l m : Int) | chain (f l m : Int) | cross (s : Int) | pass (s d : Int) | corner (s d : Int) | cast (f l : Int) | lead (f l : Int) | stand (m : Int)
def Call.word : Call → Str
  | .ring .. => "ring" | .chain .. => "chain" | .cross .. => "cross" | .pass .. => "pass" | .corner .. => "corner" | .cast .. => "cast" | .lead .. => "lead" | .stand .. => "stand"
def Call.nums : Call → List V
  | .ring f l m => [.int f, .int l, .int m] | .chain f l m => [.int f, .int l, .int m] | .cross s => [.int s] | .pass s d => [.int s, .int d] | .corner s d => [.int s, .int d] | .cast f l => [.int f, .int l] | .lead f l => [.int f, .int l] | .stand m => [.int m]
def Call.Ok (n : Int) : Call → Prop
  | .ring f l m => 0 ≤ f ∧ f < l ∧ l < n ∧ m ≠ 0 ∧ -64 ≤ m ∧ m ≤ 64
  | .chain f l m => 0 ≤ f ∧ f < l ∧ l < n ∧ m ≠ 0 ∧ -64 ≤ m ∧ m ≤ 64
  | .cross s => 0 ≤ s ∧ s < n
  | .pass s d => 0 ≤ s ∧ s < n - 1 ∧ (d = 0 ∨ d = 1)
  | .corner s d => 0 ≤ s ∧ s < n - 1 ∧ (d = 0 ∨ d = 1)
  | .cast f l => 0 ≤ f ∧ f < l ∧ l < n
  | .lead f l => 0 ≤ f ∧ f < l ∧ l < n
  | .stand m => 1 ≤ m ∧ m ≤ 64
def CallAt (H : Hp) (v : V) (c : Call) : Prop := ∃ a, v = .ref a ∧ H a = some (.tup (.str c.word :: c.nums))
theorem CallAt.same {H H' : Hp} {v : V} {c : Call} (s : Same H H') (h : CallAt H v c) : CallAt H' v c := by
  obtain ⟨a, e, h⟩ := h; exact ⟨a, e, s _ _ h⟩
theorem CallAt.same' {H H' : Hp} {v : V} {c : Call} (h : CallAt H v c) (s : Same H H') : CallAt H' v c := h.same s
def spots (n : Int) : Prop := 2 ≤ n ∧ n ≤ 6
def spLook : Sp := fun vs H Q _ => ∃ n, vs = [.int n] ∧ spots n ∧ Q .non H
def spSpan : Sp := fun vs H Q _ => ∃ n f l, vs = [.int n, .int f, .int l] ∧ Q (.bl (decide (0 ≤ f ∧ f < l ∧ l < n))) H
def spFit : Sp := fun vs H Q _ => ∃ n v c, vs = [.int n, v] ∧ CallAt H v c ∧ spots n ∧ c.Ok n ∧ ∀ H', Same H H' → Q (.bl true) H'
def spCall : Sp := fun vs H Q _ => ∃ n v c, vs = [.int n, v] ∧ CallAt H v c ∧ spots n ∧ c.Ok n ∧ ∀ H', Same H H' → Q .non H'

def Call.beats : Call → Int
  | .ring _ _ m => 2 * (if m < 0 then -m else m) | .chain _ _ m => 2 * (if m < 0 then -m else m) | .cross _ => 2 | .pass _ _ => 2 | .corner _ _ => 3 | .cast f l => 2 * (l - f) | .lead f l => 2 * (l - f) | .stand m => m
def Call.takes : Call → List V
  | .ring f l _ => rangeV (2 * f) (2 * l + 2 - 2 * f).toNat | .chain f l _ => rangeV (2 * f) (2 * l + 2 - 2 * f).toNat | .cross s => [.int (2 * s), .int (2 * s + 1)] | .pass s d => [.int (2 * s + d), .int (2 * s + 2 + d)] | .corner s d => [.int (2 * s + d), .int (2 * s + 3 - d)]
  | .cast f l => rangeV (2 * f) (2 * l + 2 - 2 * f).toNat | .lead f l => rangeV (2 * f) (2 * l + 2 - 2 * f).toNat | .stand _ => []
def Call.exch : Call → Bool
  | .cross _ => true | .pass _ _ => true | .corner _ _ => true | _ => false
def spExch : Sp := fun vs H Q _ => ∃ v c, vs = [v] ∧ CallAt H v c ∧ c.exch = true ∧ ∀ p H', H p = none → Same H H' → H' p = some (.lst c.takes) → Q (.ref p) H'
def spTaken : Sp := fun vs H Q _ => ∃ n v c, vs = [.int n, v] ∧ CallAt H v c ∧ spots n ∧ c.Ok n ∧ ∀ p H', H p = none → Same H H' → H' p = some (.lst c.takes) → Q (.ref p) H'
def spBeats : Sp := fun vs H Q _ => ∃ n v c, vs = [.int n, v] ∧ CallAt H v c ∧ spots n ∧ c.Ok n ∧ ∀ H', Same H H' → Q (.int c.beats) H'
theorem rd_look {H : Hp} {Q : VK} {E : XK} {n : Int} (h : spots n) (q : Q .non H) : spLook [.int n] H Q E := ⟨n, rfl, h, q⟩
theorem rd_span {H : Hp} {Q : VK} {E : XK} {n f l : Int} (q : Q (.bl (decide (0 ≤ f ∧ f < l ∧ l < n))) H) : spSpan [.int n, .int f, .int l] H Q E := ⟨n, f, l, rfl, q⟩
theorem rd_fit {H : Hp} {Q : VK} {E : XK} {n : Int} {v : V} {c : Call} (h : CallAt H v c) (h1 : spots n) (h2 : c.Ok n) (q : ∀ H', Same H H' → Q (.bl true) H') : spFit [.int n, v] H Q E := ⟨n, v, c, rfl, h, h1, h2, q⟩
theorem rd_call {H : Hp} {Q : VK} {E : XK} {n : Int} {v : V} {c : Call} (h : CallAt H v c) (h1 : spots n) (h2 : c.Ok n) (q : ∀ H', Same H H' → Q .non H') : spCall [.int n, v] H Q E := ⟨n, v, c, rfl, h, h1, h2, q⟩
theorem rd_exch {H : Hp} {Q : VK} {E : XK} {v : V} {c : Call} (h : CallAt H v c) (h2 : c.exch = true) (q : ∀ p H', H p = none → Same H H' → H' p = some (.lst c.takes) → Q (.ref p) H') : spExch [v] H Q E := ⟨v, c, rfl, h, h2, q⟩
local macro_rules | `(tactic| walk_at "rd1") => `(tactic| first
  | (refine rd_look ?h ?q; (case h => assumption))
  | refine rd_span ?_)
local macro_rules | `(tactic| walk_at "ca") => `(tactic| first | assumption | exact CallAt.same' (by assumption) (by walk_at "sm"))
local macro_rules | `(tactic| walk_at "fr") => `(tactic| first | assumption | (refine Same.free ?_ (by assumption); walk_at "sm"))
local macro_rules | `(tactic| walk_at "rd1") => `(tactic| first
  | ((with_reducible apply rd_fit); (focus (walk_at "ca")); (focus (assumption)); (focus (assumption)); intro H' hs)
  | ((with_reducible apply rd_call); (focus (walk_at "ca")); (focus (assumption)); (focus (assumption)); intro H' hs)
  | ((with_reducible apply rd_exch); (focus (walk_at "ca")); (focus (rfl)); intro p H' hp hs he))
section
variable {P : Program} {w : World} {K : PySem.W.Frag} {mg : Str → Option Value} {base : Heap}
theorem sc_look_spots : FnScope ["spots"] ["spots"] (defScope s_look_spots) := ⟨rfl, rfl, rfl, by decide +kernel, rfl, by decide +kernel, by decide +kernel⟩
theorem ok_look_spots {f : Addr} {fd : FuncData} (F : Fun K "look_spots" "look_spots" s_look_spots f fd) (T : Txt P w K mg)   : FnOk P w K mg base CX0 (0 + 1) f fd ["spots"] spLook := by
  refine F.ok sc_look_spots (fun vs H Q E h => ?_) (fun cdv A outer s H vs Q E hr h => ?_)
  · obtain ⟨n, rfl, _⟩ := h
    rfl
  · obtain ⟨n, rfl, ⟨h1, h2⟩, k⟩ := h
    refine ⟨_, (pss_one (ps_if (pt_not (pt_chain op_le op_le (pe_globI T.c_FEWEST_SPOTS) (pv 0) (pe_globI T.c_MOST_SPOTS)))
      (pss_one ps_never)
      pss_nil)), ?_⟩
    walk_at "rd"
    exact k
theorem sc_is_span : FnScope ["spots", "first", "last"] ["spots", "first", "last"] (defScope s_is_span) := ⟨rfl, rfl, rfl, by decide +kernel, rfl, by decide +kernel, by decide +kernel⟩
theorem ok_is_span {f : Addr} {fd : FuncData} (F : Fun K "is_span" "is_span" s_is_span f fd) (T : Txt P w K mg)   : FnOk P w K mg base CX0 (0 + 1) f fd ["spots", "first", "last"] spSpan := by
  refine F.ok sc_is_span (fun vs H Q E h => ?_) (fun cdv A outer s H vs Q E hr h => ?_)
  · obtain ⟨n, f, l, rfl, _⟩ := h
    rfl
  · obtain ⟨n, fi, la, rfl, k⟩ := h
    refine ⟨_, (pss_one (ps_ret (pe_chain3 op_le op_lt op_lt pe_int (pv 1) (pv 2) (pv 0)))), ?_⟩
    walk_at "rd"
    refine ite2 (fun c1 => ?_) (fun c1 => ?_)
    · walk_at "rd"
      have c1' := of_decide_eq_true c1
      refine ite2 (fun c2 => ?_) (fun c2 => ?_)
      · have c2' := of_decide_eq_true c2
        walk_at "rd"
        have e : decide (0 ≤ fi ∧ fi < la ∧ la < n) = decide (la < n) := by
          rw [decide_eq_decide]; omega
        rw [e] at k
        exact k
      · have e : decide (0 ≤ fi ∧ fi < la ∧ la < n) = false := by
          rw [decide_eq_false_iff_not]; intro z; exact c2 (decide_eq_true z.2.1)
        rw [e] at k
        exact k
    · have e : decide (0 ≤ fi ∧ fi < la ∧ la < n) = false := by
        rw [decide_eq_false_iff_not]; intro z; exact c1 (decide_eq_true z.1)
      rw [e] at k
      exact k
theorem sc_numbers_fit : FnScope ["spots", "call", "word"] ["spots", "call"] (defScope s_numbers_fit) := ⟨rfl, rfl, rfl, by decide +kernel, rfl, by decide +kernel, by decide +kernel⟩
theorem ok_numbers_fit {f : Addr} {fd : FuncData} (F : Fun K "numbers_fit" "numbers_fit" s_numbers_fit f fd) (T : Txt P w K mg)  (F_is_span : FnAt P w K mg base "is_span" 1 spSpan) : FnOk P w K mg base CX0 (1 + 1) f fd ["spots", "call"] spFit := by
  refine F.ok sc_numbers_fit (fun vs H Q E h => ?_) (fun cdv A outer s H vs Q E hr h => ?_)
  · obtain ⟨n, v, c, rfl, _⟩ := h
    rfl
  · obtain ⟨n, v, c, rfl, ⟨a, rfl, ha⟩, ⟨n1, n2⟩, hc, k⟩ := h
    refine ⟨_, (pss_cons (ps_set (i := 2) sc_numbers_fit.nd rfl (Or.inl rfl) (pe_ix ix_tup (pv 1) pe_int (fun _ _ => rfl)))
      (pss_cons (ps_if (pt_cmpR op_eq (pv 2) pe_str (nomark _))
      (pss_one (ps_ret (pe_chain op_le op_le pe_int (pe_ix ix_tup (pv 1) pe_int (fun _ _ => rfl)) (pe_globI T.c_MOST_MANY))))
      pss_nil)
      (pss_cons (ps_if (pt_cmpR op_eq (pv 2) pe_str (nomark _))
      (pss_one (ps_ret (pe_chain op_le op_lt pe_int (pe_ix ix_tup (pv 1) pe_int (fun _ _ => rfl)) (pv 0))))
      pss_nil)
      (pss_cons (ps_if (pt_cmpR op_in_seq (pv 2) (pe_tup (pa_cons pe_str (pa_cons pe_str pa_nil))) rfl)
      (pss_one (ps_ret (pe_and (pe_chain op_le op_lt pe_int (pe_ix ix_tup (pv 1) pe_int (fun _ _ => rfl)) (pe_op op_sub (pv 0) pe_int)) (pe_one (pe_cmpR op_in_seq (pe_ix ix_tup (pv 1) pe_int (fun _ _ => rfl)) (pe_tup (pa_cons pe_int (pa_cons pe_int pa_nil))) rfl)))))
      pss_nil)
      (pss_cons (ps_if (pt_cmpR op_in_seq (pv 2) (pe_tup (pa_cons pe_str (pa_cons pe_str pa_nil))) rfl)
      (pss_one (ps_ret (pe_fn F_is_span (hr.mono (by omega)) (pa_cons (pv 0) (pa_cons (pe_ix ix_tup (pv 1) pe_int (fun _ _ => rfl)) (pa_cons (pe_ix ix_tup (pv 1) pe_int (fun _ _ => rfl)) pa_nil))))))
      pss_nil)
      (pss_one (ps_ret (pe_and (pe_fn F_is_span (hr.mono (by omega)) (pa_cons (pv 0) (pa_cons (pe_ix ix_tup (pv 1) pe_int (fun _ _ => rfl)) (pa_cons (pe_ix ix_tup (pv 1) pe_int (fun _ _ => rfl)) pa_nil)))) (pe_one (pe_chain op_le op_le pe_int (pe_callB call_abs (by rfl) T.n_abs bt_abs (pa_cons (pe_ix ix_tup (pv 1) pe_int (fun _ _ => rfl)) pa_nil)) (pe_globI T.c_MOST_MANY))))))))))), ?_⟩
    cases c with
    | ring fi la m =>
      simp only [Call.word, Call.nums, Call.Ok] at ha hc
      have hm : 1 ≤ (if m < 0 then -m else m) ∧ (if m < 0 then -m else m) ≤ 64 := by split <;> omega
      walk_at "rd"
      first | exact k _ (by walk_at "sm") | exact fin_dec (by omega) (k _ (by walk_at "sm")) | exact fin_dec (by split <;> omega) (k _ (by walk_at "sm")) | exact fin_tt (by rfl) (k _ (by walk_at "sm"))
    | chain fi la m =>
      simp only [Call.word, Call.nums, Call.Ok] at ha hc
      have hm : 1 ≤ (if m < 0 then -m else m) ∧ (if m < 0 then -m else m) ≤ 64 := by split <;> omega
      walk_at "rd"
      first | exact k _ (by walk_at "sm") | exact fin_dec (by omega) (k _ (by walk_at "sm")) | exact fin_dec (by split <;> omega) (k _ (by walk_at "sm")) | exact fin_tt (by rfl) (k _ (by walk_at "sm"))
    | cross sp =>
      simp only [Call.word, Call.nums, Call.Ok] at ha hc
      walk_at "rd"
      first | exact k _ (by walk_at "sm") | exact fin_dec (by omega) (k _ (by walk_at "sm")) | exact fin_dec (by split <;> omega) (k _ (by walk_at "sm")) | exact fin_tt (by rfl) (k _ (by walk_at "sm"))
    | pass sp d =>
      simp only [Call.word, Call.nums, Call.Ok] at ha hc
      obtain ⟨hc1, hc2, hd⟩ := hc
      rcases hd with rfl | rfl
      · walk_at "rd"
        first | exact k _ (by walk_at "sm") | exact fin_dec (by omega) (k _ (by walk_at "sm")) | exact fin_dec (by split <;> omega) (k _ (by walk_at "sm")) | exact fin_tt (by rfl) (k _ (by walk_at "sm"))
      · walk_at "rd"
        first | exact k _ (by walk_at "sm") | exact fin_dec (by omega) (k _ (by walk_at "sm")) | exact fin_dec (by split <;> omega) (k _ (by walk_at "sm")) | exact fin_tt (by rfl) (k _ (by walk_at "sm"))
    | corner sp d =>
      simp only [Call.word, Call.nums, Call.Ok] at ha hc
      obtain ⟨hc1, hc2, hd⟩ := hc
      rcases hd with rfl | rfl
      · walk_at "rd"
        first | exact k _ (by walk_at "sm") | exact fin_dec (by omega) (k _ (by walk_at "sm")) | exact fin_dec (by split <;> omega) (k _ (by walk_at "sm")) | exact fin_tt (by rfl) (k _ (by walk_at "sm"))
      · walk_at "rd"
        first | exact k _ (by walk_at "sm") | exact fin_dec (by omega) (k _ (by walk_at "sm")) | exact fin_dec (by split <;> omega) (k _ (by walk_at "sm")) | exact fin_tt (by rfl) (k _ (by walk_at "sm"))
    | cast fi la =>
      simp only [Call.word, Call.nums, Call.Ok] at ha hc
      walk_at "rd"
      first | exact k _ (by walk_at "sm") | exact fin_dec (by omega) (k _ (by walk_at "sm")) | exact fin_dec (by split <;> omega) (k _ (by walk_at "sm")) | exact fin_tt (by rfl) (k _ (by walk_at "sm"))
    | lead fi la =>
      simp only [Call.word, Call.nums, Call.Ok] at ha hc
      walk_at "rd"
      first | exact k _ (by walk_at "sm") | exact fin_dec (by omega) (k _ (by walk_at "sm")) | exact fin_dec (by split <;> omega) (k _ (by walk_at "sm")) | exact fin_tt (by rfl) (k _ (by walk_at "sm"))
    | stand m =>
      simp only [Call.word, Call.nums, Call.Ok] at ha hc
      walk_at "rd"
      first | exact k _ (by walk_at "sm") | exact fin_dec (by omega) (k _ (by walk_at "sm")) | exact fin_dec (by split <;> omega) (k _ (by walk_at "sm")) | exact fin_tt (by rfl) (k _ (by walk_at "sm"))
theorem sc_look_call : FnScope ["spots", "call"] ["spots", "call"] (defScope s_look_call) := ⟨rfl, rfl, rfl, by decide +kernel, rfl, by decide +kernel, by decide +kernel⟩
theorem ok_look_call {f : Addr} {fd : FuncData} (F : Fun K "look_call" "look_call" s_look_call f fd) (T : Txt P w K mg)  (F_look_spots : FnAt P w K mg base "look_spots" 1 spLook) (F_numbers_fit : FnAt P w K mg base "numbers_fit" 2 spFit) : FnOk P w K mg base CX0 (2 + 1) f fd ["spots", "call"] spCall := by
  refine F.ok sc_look_call (fun vs H Q E h => ?_) (fun cdv A outer s H vs Q E hr h => ?_)
  · obtain ⟨n, v, c, rfl, _⟩ := h
    rfl
  · obtain ⟨n, v, c, rfl, hca, hns, hok, k⟩ := h
    obtain ⟨cA, m_COUNTS, d_COUNTS⟩ := T.cnt
    refine ⟨_, (pss_cons (ps_expr (pe_fn F_look_spots (hr.mono (by omega)) (pa_cons (pv 0) pa_nil)))
      (pss_cons (ps_if ((pw_or (pt_not (pt_truth (pv 1) (fun _ => rfl))) (pw_or1 (pt_cmpR op_ne (pe_kget1 d_COUNTS (by rfl) m_COUNTS (pe_ix ix_tup (pv 1) pe_int (fun _ _ => rfl)) ⟨rfl, rfl, rfl, rfl⟩) (pe_op op_sub (pe_callB cl_len (by rfl) T.n_len PySem.boot_len (pa_cons (pv 1) pa_nil)) pe_int) (nomark _))))).pt
      (pss_one ps_never)
      pss_nil)
      (pss_one (ps_if (pt_not (pt_val (pe_fn F_numbers_fit (hr.mono (by omega)) (pa_cons (pv 0) (pa_cons (pv 1) pa_nil)))))
      (pss_one ps_never)
      pss_nil)))), ?_⟩
    obtain ⟨a, rfl, ha⟩ := id hca
    have hc := hok
    cases c with
    | ring fi la m =>
      simp only [Call.word, Call.nums, Call.Ok] at ha hc
      walk_at "rd"
      exact k _ (by walk_at "sm")
    | chain fi la m =>
      simp only [Call.word, Call.nums, Call.Ok] at ha hc
      walk_at "rd"
      exact k _ (by walk_at "sm")
    | cross sp =>
      simp only [Call.word, Call.nums, Call.Ok] at ha hc
      walk_at "rd"
      exact k _ (by walk_at "sm")
    | pass sp d =>
      simp only [Call.word, Call.nums, Call.Ok] at ha hc
      walk_at "rd"
      exact k _ (by walk_at "sm")
    | corner sp d =>
      simp only [Call.word, Call.nums, Call.Ok] at ha hc
      walk_at "rd"
      exact k _ (by walk_at "sm")
    | cast fi la =>
      simp only [Call.word, Call.nums, Call.Ok] at ha hc
      walk_at "rd"
      exact k _ (by walk_at "sm")
    | lead fi la =>
      simp only [Call.word, Call.nums, Call.Ok] at ha hc
      walk_at "rd"
      exact k _ (by walk_at "sm")
    | stand m =>
      simp only [Call.word, Call.nums, Call.Ok] at ha hc
      walk_at "rd"
      exact k _ (by walk_at "sm")
theorem sc_exchange_places : FnScope ["call", "left", "side"] ["call"] (defScope s_exchange_places) := ⟨rfl, rfl, rfl, by decide +kernel, rfl, by decide +kernel, by decide +kernel⟩
theorem ok_exchange_places {f : Addr} {fd : FuncData} (F : Fun K "exchange_places" "exchange_places" s_exchange_places f fd) (T : Txt P w K mg)   : FnOk P w K mg base CX0 (0 + 1) f fd ["call"] spExch := by
  refine F.ok sc_exchange_places (fun vs H Q E h => ?_) (fun cdv A outer s H vs Q E hr h => ?_)
  · obtain ⟨v, c, rfl, _⟩ := h
    rfl
  · obtain ⟨v, c, rfl, ⟨a, rfl, ha⟩, hx, k⟩ := h
    refine ⟨_, (pss_cons (ps_set (i := 1) sc_exchange_places.nd rfl (Or.inl rfl) (pe_op op_mul pe_int (pe_ix ix_tup (pv 0) pe_int (fun _ _ => rfl))))
      (pss_cons (ps_if (pt_cmpR op_eq (pe_ix ix_tup (pv 0) pe_int (fun _ _ => rfl)) pe_str (nomark _))
      (pss_one (ps_ret (pe_lst (pa_cons (pv 1) (pa_cons (pe_op op_add (pv 1) pe_int) pa_nil)))))
      pss_nil)
      (pss_cons (ps_set (i := 2) sc_exchange_places.nd rfl (Or.inl rfl) (pe_ix ix_tup (pv 0) pe_int (fun _ _ => rfl)))
      (pss_cons (ps_if (pt_cmpR op_eq (pe_ix ix_tup (pv 0) pe_int (fun _ _ => rfl)) pe_str (nomark _))
      (pss_one (ps_ret (pe_lst (pa_cons (pe_op op_add (pv 1) (pv 2)) (pa_cons (pe_op op_add (pe_op op_add (pv 1) pe_int) (pv 2)) pa_nil)))))
      pss_nil)
      (pss_one (ps_ret (pe_lst (pa_cons (pe_op op_add (pv 1) (pv 2)) (pa_cons (pe_op op_sub (pe_op op_add (pv 1) pe_int) (pv 2)) pa_nil))))))))), ?_⟩
    cases c with
    | ring fi la m =>
      simp only [Call.word, Call.nums, Call.Ok] at ha
      cases hx
    | chain fi la m =>
      simp only [Call.word, Call.nums, Call.Ok] at ha
      cases hx
    | cross sp =>
      simp only [Call.word, Call.nums, Call.Ok] at ha
      walk_at "rd"
      first | exact k _ _ (by walk_at "fr") (by walk_at "sm") (by assumption)
    | pass sp d =>
      simp only [Call.word, Call.nums, Call.Ok] at ha
      walk_at "rd"
      first | exact k _ _ (by walk_at "fr") (by walk_at "sm") (by assumption)
    | corner sp d =>
      simp only [Call.word, Call.nums, Call.Ok] at ha
      walk_at "rd"
      first | exact k _ _ (by walk_at "fr") (by walk_at "sm") (by assumption)
    | cast fi la =>
      simp only [Call.word, Call.nums, Call.Ok] at ha
      cases hx
    | lead fi la =>
      simp only [Call.word, Call.nums, Call.Ok] at ha
      cases hx
    | stand m =>
      simp only [Call.word, Call.nums, Call.Ok] at ha
      cases hx
end


def natV (ns : List Nat) : List V := ns.map fun (q : Nat) => V.int q
theorem natV_len {ns : List Nat} : (natV ns).length = ns.length := by unfold natV; rw [List.length_map]
theorem natV_at {ns : List Nat} {i : Nat} {q : Nat} (h : ns[i]? = some q) : (natV ns)[i]? = some (.int q) := by unfold natV; rw [List.getElem?_map, h]; rfl
theorem natV_set {ns : List Nat} {i q : Nat} : (natV ns).set i (.int q) = natV (ns.set i q) := by unfold natV; rw [List.map_set]
theorem natV_app {ns ms : List Nat} : natV ns ++ natV ms = natV (ns ++ ms) := by unfold natV; rw [List.map_append]
theorem natV_range (n : Nat) : rangeV 0 n = natV (List.range n) := by
  unfold rangeV natV
  refine List.map_congr_left fun i _ => ?_
  congr 1; omega
theorem natV_map (n : Nat) (f : Nat → Nat) : ((List.range n).map fun i => V.int ((f i : Nat) : Int)) = natV ((List.range n).map f) := by unfold natV; rw [List.map_map]; rfl
def stillN (n : Nat) : List Nat := List.range (2 * n)
def ringN (f l : Nat) : List Nat := [2 * f] ++ (List.range (l + 1 - f)).map (fun i => 2 * (f + i) + 1) ++ (List.range (l - f)).map (fun i => 2 * (l - i))
theorem ringN_len {f l : Nat} (h : f < l) : (ringN f l).length = 2 * (l - f + 1) := by unfold ringN; simp; omega
def spStill : Sp := fun vs H Q _ => ∃ n : Nat, vs = [.int n] ∧ spots n ∧ ∀ l H', H l = none → Same H H' → H' l = some (.lst (natV (stillN n))) → Q (.ref l) H'
theorem rd_still {H : Hp} {Q : VK} {E : XK} {n : Nat} (h : spots n) (q : ∀ l H', H l = none → Same H H' → H' l = some (.lst (natV (stillN n))) → Q (.ref l) H') : spStill [.int n] H Q E := ⟨n, rfl, h, q⟩
def spRing : Sp := fun vs H Q _ => ∃ n f l : Nat, vs = [.int n, .int f, .int l] ∧ spots n ∧ f < l ∧ l < n ∧ ∀ p H', H p = none → Same H H' → H' p = some (.lst (natV (ringN f l))) → Q (.ref p) H'
theorem rd_ring {H : Hp} {Q : VK} {E : XK} {n f l : Nat} (h : spots n) (h1 : f < l) (h2 : l < n) (q : ∀ p H', H p = none → Same H H' → H' p = some (.lst (natV (ringN f l))) → Q (.ref p) H') : spRing [.int n, .int f, .int l] H Q E := ⟨n, f, l, rfl, h, h1, h2, q⟩
def spLWay : Sp := fun vs H Q _ => ∃ (n : Nat) (a : Addr) (w : List Nat), vs = [.int n, .ref a] ∧ spots n ∧ H a = some (.lst (natV w)) ∧ w.Perm (stillN n) ∧ ∀ H', Same H H' → Q .non H'
theorem rd_lway {H : Hp} {Q : VK} {E : XK} {n : Nat} {a : Addr} {w : List Nat} (h : spots n) (ha : H a = some (.lst (natV w))) (hp : w.Perm (stillN n)) (q : ∀ H', Same H H' → Q .non H') : spLWay [.int n, .ref a] H Q E := ⟨n, a, w, rfl, h, ha, hp, q⟩
def undoN (n : Nat) (w : List Nat) (j : Nat) : List Nat := (List.range j).foldl (fun b i => b.set (w.getD i 0) i) (stillN n)
def spUndone : Sp := fun vs H Q _ => ∃ (n : Nat) (a : Addr) (w : List Nat), vs = [.int n, .ref a] ∧ spots n ∧ H a = some (.lst (natV w)) ∧ w.Perm (stillN n) ∧ ∀ l H', Same H H' → H' l = some (.lst (natV (undoN n w w.length))) → Q (.ref l) H'
theorem rd_undone {H : Hp} {Q : VK} {E : XK} {n : Nat} {a : Addr} {w : List Nat} (h : spots n) (ha : H a = some (.lst (natV w))) (hp : w.Perm (stillN n)) (q : ∀ l H', Same H H' → H' l = some (.lst (natV (undoN n w w.length))) → Q (.ref l) H') : spUndone [.int n, .ref a] H Q E := ⟨n, a, w, rfl, h, ha, hp, q⟩
def goalN (s : Nat) (ch : Bool) (m : Int) (i : Nat) : Nat := ((if ch = true ∧ i % 2 = 1 then (i : Int) - m else (i : Int) + m) % (s : Int)).toNat
def roundN (n f l : Nat) (m : Int) (ch : Bool) (j : Nat) : List Nat := (List.range j).foldl (fun b i => b.set ((ringN f l).getD i 0) ((ringN f l).getD (goalN (ringN f l).length ch m i) 0)) (stillN n)
def castN0 (n f : Nat) (j : Nat) : List Nat := (List.range j).foldl (fun b i => b.set (2 * f + 2 + i) (2 * f + i)) (stillN n)
def castN (n f l : Nat) : List Nat := ((castN0 n f (2 * (l - f))).set (2 * f) (2 * l)).set (2 * f + 1) (2 * l + 1)
def spCast : Sp := fun vs H Q _ => ∃ n f l : Nat, vs = [.int n, .int f, .int l] ∧ spots n ∧ f < l ∧ l < n ∧ ∀ p H', H p = none → Same H H' → H' p = some (.lst (natV (castN n f l))) → Q (.ref p) H'
theorem rd_cast {H : Hp} {Q : VK} {E : XK} {n f l : Nat} (h : spots n) (h1 : f < l) (h2 : l < n) (q : ∀ p H', H p = none → Same H H' → H' p = some (.lst (natV (castN n f l))) → Q (.ref p) H') : spCast [.int n, .int f, .int l] H Q E := ⟨n, f, l, rfl, h, h1, h2, q⟩
theorem foldl_len {α : Type} (g : Nat → Nat × α) : ∀ (js : List Nat) (b : List α), (js.foldl (fun b i => b.set (g i).1 (g i).2) b).length = b.length
  | [], _ => rfl
  | j :: js, b => by rw [List.foldl_cons, foldl_len g js, List.length_set]
theorem undoN_len {n j : Nat} {w : List Nat} : (undoN n w j).length = 2 * n := by
  unfold undoN
  rw [foldl_len (fun i => (w.getD i 0, i))]; unfold stillN; simp
theorem roundN_len {n f l j : Nat} {m : Int} {ch : Bool} : (roundN n f l m ch j).length = 2 * n := by
  unfold roundN
  rw [foldl_len (fun i => ((ringN f l).getD i 0, (ringN f l).getD (goalN (ringN f l).length ch m i) 0))]; unfold stillN; simp
theorem castN0_len {n f j : Nat} : (castN0 n f j).length = 2 * n := by
  unfold castN0
  rw [foldl_len (fun i => (2 * f + 2 + i, 2 * f + i))]; unfold stillN; simp
theorem perm_lt {n : Nat} {w : List Nat} (h : w.Perm (stillN n)) {q : Nat} (hq : q ∈ w) : q < 2 * n := by
  have := h.mem_iff.mp hq
  unfold stillN at this
  exact List.mem_range.mp this
theorem perm_len {n : Nat} {w : List Nat} (h : w.Perm (stillN n)) : w.length = 2 * n := by rw [h.length_eq]; unfold stillN; simp
theorem ringN_lt {n f l : Nat} (h1 : f < l) (h2 : l < n) {q : Nat} (hq : q ∈ ringN f l) : q < 2 * n := by
  unfold ringN at hq
  simp only [List.mem_append, List.mem_cons, List.not_mem_nil, or_false, List.mem_map, List.mem_range] at hq
  rcases hq with (rfl | ⟨i, hi, rfl⟩) | ⟨i, hi, rfl⟩ <;> omega
section
variable {P : Program} {w : World} {K : PySem.W.Frag} {mg : Str → Option Value} {base : Heap}
theorem sc_still : FnScope ["spots"] ["spots"] (defScope s_still) := ⟨rfl, rfl, rfl, by decide +kernel, rfl, by decide +kernel, by decide +kernel⟩
theorem ok_still {f : Addr} {fd : FuncData} (F : Fun K "still" "still" s_still f fd) (T : Txt P w K mg)  (F_look_spots : FnAt P w K mg base "look_spots" 1 spLook) : FnOk P w K mg base CX0 (1 + 1) f fd ["spots"] spStill := by
  refine F.ok sc_still (fun vs H Q E h => ?_) (fun cdv A outer s H vs Q E hr h => ?_)
  · obtain ⟨n, rfl, _⟩ := h
    rfl
  · obtain ⟨n, rfl, hn, k⟩ := h
    refine ⟨_, (pss_cons (ps_expr (pe_fn F_look_spots (hr.mono (by omega)) (pa_cons (pv 0) pa_nil)))
      (pss_one (ps_ret (pe_callTy (cl_listR rfl) (by rfl) T.n_list bt_list (pa_cons (pe_callTy cl_rng (by rfl) T.n_range bt_range (pa_cons (pe_op op_mul pe_int (pv 0)) pa_nil)) pa_nil))))), ?_⟩
    obtain ⟨n1, n2⟩ := id hn
    walk_at "rd"
    rename_i p1 H1 hp1 s1 h1 p2 H2 hp2 s2 h2
    rw [show (2 * (n : Int) - 0).toNat = 2 * n from by omega, natV_range] at h2
    exact k _ _ (s1.free hp2) (s1.trans s2) h2
theorem sc_ring_places : FnScope ["spots", "first", "last", "down", "up"] ["spots", "first", "last"] (defScope s_ring_places) := ⟨rfl, rfl, rfl, by decide +kernel, rfl, by decide +kernel, by decide +kernel⟩
theorem ok_ring_places {f : Addr} {fd : FuncData} (F : Fun K "ring_places" "ring_places" s_ring_places f fd) (T : Txt P w K mg)  (F_look_spots : FnAt P w K mg base "look_spots" 1 spLook) (F_is_span : FnAt P w K mg base "is_span" 1 spSpan) : FnOk P w K mg base CX0 (1 + 1) f fd ["spots", "first", "last"] spRing := by
  refine F.ok sc_ring_places (fun vs H Q E h => ?_) (fun cdv A outer s H vs Q E hr h => ?_)
  · obtain ⟨n, f, l, rfl, _⟩ := h
    rfl
  · obtain ⟨n, fi, la, rfl, hn, h1, h2, k⟩ := h
    refine ⟨_, (pss_cons (ps_expr (pe_fn F_look_spots (hr.mono (by omega)) (pa_cons (pv 0) pa_nil)))
      (pss_cons (ps_if (pt_not (pt_val (pe_fn F_is_span (hr.mono (by omega)) (pa_cons (pv 0) (pa_cons (pv 1) (pa_cons (pv 2) pa_nil))))))
      (pss_one ps_never)
      pss_nil)
      (pss_cons (ps_setC (iy := 3) (N := ["spot"]) (k := 1) (caps := []) rfl (compOk_of ["spots", "first", "last", "down", "up"] (defScope s_ring_places).names (by decide +kernel)) (pi_range2 rfl T.n_range (pa_cons (pv 1) (pa_cons (pe_op op_add (pv 2) pe_int) pa_nil))) (fun _ _ _ _ => (pg_name (i := 0) (show List.Nodup (["spot"] : List Str) by decide +kernel) rfl (Or.inl rfl))) (fun _ _ _ _ => pcs_nil) (fun _ _ _ _ => (pe_op op_add (pe_op op_mul pe_int (pv 0)) pe_int)) sc_ring_places.nd rfl (Or.inl rfl))
      (pss_cons (ps_setC (iy := 4) (N := ["spot"]) (k := 1) (caps := []) rfl (compOk_of ["spots", "first", "last", "down", "up"] (defScope s_ring_places).names (by decide +kernel)) (pi_range3 rfl T.n_range (pa_cons (pv 2) (pa_cons (pv 1) (pa_cons (pe_un un_neg pe_int) pa_nil)))) (fun _ _ _ _ => (pg_name (i := 0) (show List.Nodup (["spot"] : List Str) by decide +kernel) rfl (Or.inl rfl))) (fun _ _ _ _ => pcs_nil) (fun _ _ _ _ => (pe_op op_mul pe_int (pv 0))) sc_ring_places.nd rfl (Or.inl rfl))
      (pss_one (ps_ret (pe_op op_cat (pe_op op_cat (pe_lst (pa_cons (pe_op op_mul pe_int (pv 1)) pa_nil)) (pv 3)) (pv 4)))))))), ?_⟩
    obtain ⟨n1, n2⟩ := id hn
    walk_at "rd"
    refine ⟨_, _, rfl, by omega, comp_rm (fun i => .int ((2 * (fi + i) + 1 : Nat) : Int)) ?_ ?_⟩
    · intro D i own H1 hD hi ho s1 e1
      obtain ⟨o, rfl⟩ : ∃ o, own = [o] := by
        match own, ho with
        | [o], _ => exact ⟨o, rfl⟩
      walk_at "rd"
      exact yieldM [some (.int ((fi : Int) + (i : Int)))] (by omega) hi hD s1 e1 (by walk_at "sm") (congrArg V.int (by omega)) rfl rfl
    intro D1 H1 hD1 s1 e1
    rw [natV_map, show ((la : Int) + 1 - fi).toNat = la + 1 - fi from by omega] at e1
    walk_at "rd"
    refine ⟨_, _, _, rfl, by decide, by omega, by decide, PySem.W.small_down (by omega) (by omega) (by omega) (by omega), ?_⟩
    rw [show (Builtin.Range.rangeSize la fi (-1)).toNat = la - fi from by unfold Builtin.Range.rangeSize; rw [if_neg (by decide), if_pos (by omega), show (-(-1) : Int) = 1 from rfl, Int.ediv_one]; omega]
    refine comp_sm (fun i => .int ((2 * (la - i) : Nat) : Int)) ?_ ?_
    · intro D i own H2 hD hi ho s2 e2
      obtain ⟨o, rfl⟩ : ∃ o, own = [o] := by
        match own, ho with
        | [o], _ => exact ⟨o, rfl⟩
      walk_at "rd"
      exact yieldM [some (.int ((la : Int) + (i : Int) * -1))] (by omega) hi hD s2 e2 (by walk_at "sm") (congrArg V.int (by omega)) rfl rfl
    intro D2 H2 hD2 s2 e2
    rw [natV_map] at e2
    walk_at "rd"
    rename_i p3 H3 hp3 s3 h3
    have e3 : H3 D1 = some (.lst (natV ((List.range (la + 1 - fi)).map fun i => 2 * (fi + i) + 1))) := by walk_at "hp"
    refine i_cat (xs := natV [2 * fi]) (by rw [h3]; simp [natV]) e3 (Nat.le_trans (by rw [natV_len, natV_len]; simp; omega : _ ≤ 1000) k1000) fun p4 H4 hp4 s4 h4 => ?_
    rw [natV_app] at h4
    walk_at "rd"
    refine i_cat h4 (by walk_at "hp") (Nat.le_trans (by rw [natV_len, natV_len]; simp; omega : _ ≤ 1000) k1000) fun p5 H5 hp5 s5 h5 => ?_
    rw [natV_app] at h5
    exact k _ _ (s1.free (s2.free (s3.free (s4.free hp5)))) (s1.trans (s2.trans (s3.trans (s4.trans s5)))) h5
theorem sc_look_way : FnScope ["spots", "way"] ["spots", "way"] (defScope s_look_way) := ⟨rfl, rfl, rfl, by decide +kernel, rfl, by decide +kernel, by decide +kernel⟩
theorem ok_look_way {f : Addr} {fd : FuncData} (F : Fun K "look_way" "look_way" s_look_way f fd) (T : Txt P w K mg)   : FnOk P w K mg base CX0 (0 + 1) f fd ["spots", "way"] spLWay := by
  refine F.ok sc_look_way (fun vs H Q E h => ?_) (fun cdv A outer s H vs Q E hr h => ?_)
  · obtain ⟨n, a, w, rfl, _⟩ := h
    rfl
  · obtain ⟨n, a, w, rfl, hn, ha, hp, k⟩ := h
    refine ⟨_, (pss_one (ps_if (pt_cmpR (op_neL hr.units) (pe_callB cl_sort (by rfl) T.n_sorted bt_sorted (pa_cons (pv 1) pa_nil)) (pe_callTy (cl_listR rfl) (by rfl) T.n_list bt_list (pa_cons (pe_callTy cl_rng (by rfl) T.n_range bt_range (pa_cons (pe_op op_mul pe_int (pv 0)) pa_nil)) pa_nil)) (nomark _))
      (pss_one ps_never)
      pss_nil)), ?_⟩
    obtain ⟨n1, n2⟩ := id hn
    have lw := perm_len hp
    have ew : natV w = (w.map fun (q : Nat) => (q : Int)).map V.int := by unfold natV; rw [List.map_map]; rfl
    walk_at "rd"
    refine i_sort (w.map fun (q : Nat) => (q : Int)) (by rw [ha, ew]) (by rw [List.length_map]; omega) fun ns' l H1 pm pw hl1 s1 h1 => ?_
    walk_at "rd"
    rename_i p2 H2 hp2 s2 h2 p3 H3 hp3 s3 h3
    have er : rangeV 0 (2 * (n : Int) - 0).toNat = ((List.range (2 * n)).map fun (q : Nat) => (q : Int)).map V.int := by rw [show (2 * (n : Int) - 0).toNat = 2 * n from by omega, natV_range]; unfold natV; rw [List.map_map]; rfl
    rw [er] at h3
    have eq : ns' = (List.range (2 * n)).map fun (q : Nat) => (q : Int) := by
      refine sorted_eq (pm.trans (hp.map _)) pw ?_
      rw [List.pairwise_map]
      exact List.Pairwise.imp (fun h => by omega) (List.pairwise_lt_range (n := 2 * n))
    refine i_neL _ _ (by walk_at "hp") h3 ?_
    rw [eq]
    walk_at "rd"
    exact k _ (by walk_at "sm")
theorem sc_undone : FnScope ["spots", "way", "way_back", "place", "goal"] ["spots", "way"] (defScope s_undone) := ⟨rfl, rfl, rfl, by decide +kernel, rfl, by decide +kernel, by decide +kernel⟩
theorem ok_undone {f : Addr} {fd : FuncData} (F : Fun K "undone" "undone" s_undone f fd) (T : Txt P w K mg)  (F_look_spots : FnAt P w K mg base "look_spots" 1 spLook) (F_look_way : FnAt P w K mg base "look_way" 1 spLWay) (F_still : FnAt P w K mg base "still" 2 spStill) : FnOk P w K mg base CX0 (2 + 1) f fd ["spots", "way"] spUndone := by
  refine F.ok sc_undone (fun vs H Q E h => ?_) (fun cdv A outer s H vs Q E hr h => ?_)
  · obtain ⟨n, a, w, rfl, _⟩ := h
    rfl
  · obtain ⟨n, a, w, rfl, hn, ha, hp, k⟩ := h
    refine ⟨_, (pss_cons (ps_expr (pe_fn F_look_spots (hr.mono (by omega)) (pa_cons (pv 0) pa_nil)))
      (pss_cons (ps_expr (pe_fn F_look_way (hr.mono (by omega)) (pa_cons (pv 0) (pa_cons (pv 1) pa_nil))))
      (pss_cons (ps_set (i := 2) sc_undone.nd rfl (Or.inl rfl) (pe_fn F_still (hr.mono (by omega)) (pa_cons (pv 0) pa_nil)))
      (pss_cons (ps_for PassesOwn.never rfl (pi_enum rfl T.n_enumerate (pa_cons (pv 1) pa_nil)) (pg_tup rfl (pgs_cons (pg_name (i := 3) sc_undone.nd rfl (Or.inl rfl)) (pgs_cons (pg_name (i := 4) sc_undone.nd rfl (Or.inl rfl)) pgs_nil)))
      (pss_one (ps_asg (pv 3) (pg_sub (pv 2) (pv 4) set_list))))
      (pss_one (ps_ret (pv 2))))))), ?_⟩
    have lw := perm_len hp
    walk_at "rd"
    refine rd_lway hn ha hp fun H1 s1 => ?_
    walk_at "rd"
    refine rd_still hn fun l H2 hl s2 h2 => ?_
    have l0 : H l = none := s1.free hl
    walk_at "rd"
    refine ⟨a, rfl, ⟨_, SqL.of (s2 _ _ (s1 _ _ ha))⟩, for_e (xs := natV w) (fun i σ H3 => ∃ o3 o4, σ = [some (.int n), some (.ref a), some (.ref l), o3, o4] ∧ Same H H3 ∧ H3 l = some (.lst (natV (undoN n w i)))) ⟨_, _, rfl, s1.trans s2, h2⟩ (fun i σ H3 _ ⟨_, _, _, s3, _⟩ => SqL.of (s3 _ _ ha)) ?_ ?_⟩
    · rintro i x σ H3 t H4 hx ⟨o3, o4, rfl, s3, h3⟩ ht s4 h4
      have hi : i < w.length := by have := (List.getElem?_eq_some_iff.mp hx).1; rw [natV_len] at this; exact this
      obtain ⟨q, hq⟩ : ∃ q, w[i]? = some q := ⟨w[i], List.getElem?_eq_getElem hi⟩
      rw [natV_at hq] at hx
      cases hx
      have ql := perm_lt hp (List.mem_of_getElem? hq)
      walk_at "rd"
      refine i_setL (s4 _ _ h3) (by omega) (by rw [natV_len, undoN_len]; omega) fun H5 h5 h5o => ?_
      rw [Int.toNat_natCast, natV_set] at h5
      refine ⟨_, _, rfl, fun b o e => h5o b o (ne_of_none e l0) (s4 _ _ (s3 _ _ e)), ?_⟩
      rw [h5]
      unfold undoN
      rw [List.range_succ, List.foldl_append, List.foldl_cons, List.foldl_nil, List.getD_eq_getElem?_getD, hq]
      rfl
    · rintro σ H3 ⟨o3, o4, rfl, s3, h3⟩
      walk_at "rd"
      rw [natV_len] at h3
      exact k _ _ s3 h3
theorem sc_cast_way : FnScope ["spots", "first", "last", "way", "place"] ["spots", "first", "last"] (defScope s_cast_way) := ⟨rfl, rfl, rfl, by decide +kernel, rfl, by decide +kernel, by decide +kernel⟩
theorem ok_cast_way {f : Addr} {fd : FuncData} (F : Fun K "cast_way" "cast_way" s_cast_way f fd) (T : Txt P w K mg)  (F_still : FnAt P w K mg base "still" 2 spStill) : FnOk P w K mg base CX0 (2 + 1) f fd ["spots", "first", "last"] spCast := by
  refine F.ok sc_cast_way (fun vs H Q E h => ?_) (fun cdv A outer s H vs Q E hr h => ?_)
  · obtain ⟨n, f, l, rfl, _⟩ := h
    rfl
  · obtain ⟨n, fi, la, rfl, hn, h1, h2, k⟩ := h
    refine ⟨_, (pss_cons (ps_set (i := 3) sc_cast_way.nd rfl (Or.inl rfl) (pe_fn F_still (hr.mono (by omega)) (pa_cons (pv 0) pa_nil)))
      (pss_cons (ps_for PassesOwn.never rfl (pi_range2 rfl T.n_range (pa_cons (pe_op op_add (pe_op op_mul pe_int (pv 1)) pe_int) (pa_cons (pe_op op_add (pe_op op_mul pe_int (pv 2)) pe_int) pa_nil))) (pg_name (i := 4) sc_cast_way.nd rfl (Or.inl rfl))
      (pss_one (ps_asg (pe_op op_sub (pv 4) pe_int) (pg_sub (pv 3) (pv 4) set_list))))
      (pss_cons (ps_asg (pe_op op_mul pe_int (pv 2)) (pg_sub (pv 3) (pe_op op_mul pe_int (pv 1)) set_list))
      (pss_cons (ps_asg (pe_op op_add (pe_op op_mul pe_int (pv 2)) pe_int) (pg_sub (pv 3) (pe_op op_add (pe_op op_mul pe_int (pv 1)) pe_int) set_list))
      (pss_one (ps_ret (pv 3))))))), ?_⟩
    obtain ⟨n1, n2⟩ := id hn
    walk_at "rd"
    refine rd_still hn fun l H2 l0 s2 e2 => ?_
    walk_at "rd"
    refine ⟨_, _, rfl, by omega, ?_⟩
    rw [show (2 * (la : Int) + 2 - (2 * (fi : Int) + 2)).toNat = 2 * (la - fi) from by omega]
    refine for_r (fun i σ H3 => ∃ o4, σ = [some (.int n), some (.int fi), some (.int la), some (.ref l), o4] ∧ Same H H3 ∧ H3 l = some (.lst (natV (castN0 n fi i)))) ⟨_, rfl, s2, e2⟩ ?_ ?_
    · rintro i σ H3 hi ⟨o4, rfl, s3, h3⟩
      walk_at "rd"
      refine i_setL h3 (by omega) (by rw [natV_len, castN0_len]; omega) fun H5 h5 h5o => ?_
      rw [show (2 * (fi : Int) + 2 + (i : Int)).toNat = 2 * fi + 2 + i from by omega, show 2 * (fi : Int) + 2 + (i : Int) - 2 = ((2 * fi + i : Nat) : Int) from by omega, natV_set] at h5
      refine ⟨_, rfl, fun b o e => h5o b o (ne_of_none e l0) (s3 _ _ e), ?_⟩
      rw [h5]
      unfold castN0
      rw [List.range_succ, List.foldl_append, List.foldl_cons, List.foldl_nil]
    · rintro σ H3 ⟨o4, rfl, s3, h3⟩
      walk_at "rd"
      refine i_setL h3 (by omega) (by rw [natV_len, castN0_len]; omega) fun H5 h5 h5o => ?_
      rw [show (2 * (fi : Int)).toNat = 2 * fi from by omega, show 2 * (la : Int) = ((2 * la : Nat) : Int) from by omega, natV_set] at h5
      walk_at "rd"
      refine i_setL h5 (by omega) (by rw [natV_len, List.length_set, castN0_len]; omega) fun H6 h6 h6o => ?_
      rw [show (2 * (fi : Int) + 1).toNat = 2 * fi + 1 from by omega, show 2 * (la : Int) + 1 = ((2 * la + 1 : Nat) : Int) from by omega, natV_set] at h6
      walk_at "rd"
      exact k _ _ l0 (fun b o e => h6o b o (ne_of_none e l0) (h5o b o (ne_of_none e l0) (s3 _ _ e))) h6
end


def exchN (n x y : Nat) : List Nat := ((stillN n).set x y).set y x
def Call.way (n : Nat) : Call → List Nat
  | .ring f l m => roundN n f.toNat l.toNat m false (ringN f.toNat l.toNat).length
  | .chain f l m => roundN n f.toNat l.toNat m true (ringN f.toNat l.toNat).length
  | .cross s => exchN n (2 * s.toNat) (2 * s.toNat + 1)
  | .pass s d => exchN n (2 * s.toNat + d.toNat) (2 * s.toNat + 2 + d.toNat)
  | .corner s d => exchN n (2 * s.toNat + d.toNat) (2 * s.toNat + 3 - d.toNat)
  | .cast f l => castN n f.toNat l.toNat
  | .lead f l => undoN n (castN n f.toNat l.toNat) (castN n f.toNat l.toNat).length
  | .stand _ => stillN n
def Call.isRound : Call → Bool
  | .ring .. => true | .chain .. => true | _ => false
def spRoundW : Sp := fun vs H Q _ => ∃ (n : Nat) (v : V) (c : Call), vs = [.int n, v] ∧ CallAt H v c ∧ spots n ∧ c.Ok n ∧ c.isRound = true ∧ ∀ p H', Same H H' → H' p = some (.lst (natV (c.way n))) → Q (.ref p) H'
theorem rd_roundw {H : Hp} {Q : VK} {E : XK} {n : Nat} {v : V} {c : Call} (h : CallAt H v c) (h1 : spots n) (h2 : c.Ok n) (h3 : c.isRound = true) (q : ∀ p H', Same H H' → H' p = some (.lst (natV (c.way n))) → Q (.ref p) H') : spRoundW [.int n, v] H Q E := ⟨n, v, c, rfl, h, h1, h2, h3, q⟩
def spExchW : Sp := fun vs H Q _ => ∃ (n : Nat) (v : V) (c : Call), vs = [.int n, v] ∧ CallAt H v c ∧ spots n ∧ c.Ok n ∧ c.exch = true ∧ ∀ p H', Same H H' → H' p = some (.lst (natV (c.way n))) → Q (.ref p) H'
theorem rd_exchw {H : Hp} {Q : VK} {E : XK} {n : Nat} {v : V} {c : Call} (h : CallAt H v c) (h1 : spots n) (h2 : c.Ok n) (h3 : c.exch = true) (q : ∀ p H', Same H H' → H' p = some (.lst (natV (c.way n))) → Q (.ref p) H') : spExchW [.int n, v] H Q E := ⟨n, v, c, rfl, h, h1, h2, h3, q⟩
def spWay : Sp := fun vs H Q _ => ∃ (n : Nat) (v : V) (c : Call), vs = [.int n, v] ∧ CallAt H v c ∧ spots n ∧ c.Ok n ∧ ∀ p H', Same H H' → H' p = some (.lst (natV (c.way n))) → Q (.ref p) H'
theorem rd_way {H : Hp} {Q : VK} {E : XK} {n : Nat} {v : V} {c : Call} (h : CallAt H v c) (h1 : spots n) (h2 : c.Ok n) (q : ∀ p H', Same H H' → H' p = some (.lst (natV (c.way n))) → Q (.ref p) H') : spWay [.int n, v] H Q E := ⟨n, v, c, rfl, h, h1, h2, q⟩
theorem atI_int {α : Type} {xs : List α} {i : Int} {v : α} (h : 0 ≤ i) (e : xs[i.toNat]? = some v) : atI xs i = some v := by
  have := atI_nat e
  rwa [show ((i.toNat : Nat) : Int) = i from by omega] at this
theorem cast_perm : ∀ n < 7, ∀ l < n, ∀ f < l, (castN n f l).Perm (stillN n) := by decide +kernel
section
variable {P : Program} {w : World} {K : PySem.W.Frag} {mg : Str → Option Value} {base : Heap}
theorem sc_round_way : FnScope ["spots", "call", "first", "last", "many", "row", "way", "at", "place", "against", "goal"] ["spots", "call"] (defScope s_round_way) := ⟨rfl, rfl, rfl, by decide +kernel, rfl, by decide +kernel, by decide +kernel⟩
theorem ok_round_way {f : Addr} {fd : FuncData} (F : Fun K "round_way" "round_way" s_round_way f fd) (T : Txt P w K mg)  (F_ring_places : FnAt P w K mg base "ring_places" 2 spRing) (F_still : FnAt P w K mg base "still" 2 spStill) : FnOk P w K mg base CX0 (2 + 1) f fd ["spots", "call"] spRoundW := by
  refine F.ok sc_round_way (fun vs H Q E h => ?_) (fun cdv A outer s H vs Q E hr h => ?_)
  · obtain ⟨n, v, c, rfl, _⟩ := h
    rfl
  · obtain ⟨n, v, c, rfl, ⟨a, rfl, ha⟩, hn, hok, hx, k⟩ := h
    refine ⟨_, (pss_cons (ps_asg (pe_slice sl_tup (pv 1) (po_some pe_int) po_none) (pg_tup rfl (pgs_cons (pg_name (i := 2) sc_round_way.nd rfl (Or.inl rfl)) (pgs_cons (pg_name (i := 3) sc_round_way.nd rfl (Or.inl rfl)) (pgs_cons (pg_name (i := 4) sc_round_way.nd rfl (Or.inl rfl)) pgs_nil)))))
      (pss_cons (ps_set (i := 5) sc_round_way.nd rfl (Or.inl rfl) (pe_fn F_ring_places (hr.mono (by omega)) (pa_cons (pv 0) (pa_cons (pv 2) (pa_cons (pv 3) pa_nil)))))
      (pss_cons (ps_set (i := 6) sc_round_way.nd rfl (Or.inl rfl) (pe_fn F_still (hr.mono (by omega)) (pa_cons (pv 0) pa_nil)))
      (pss_cons (ps_for PassesOwn.never rfl (pi_enum rfl T.n_enumerate (pa_cons (pv 5) pa_nil)) (pg_tup rfl (pgs_cons (pg_name (i := 7) sc_round_way.nd rfl (Or.inl rfl)) (pgs_cons (pg_name (i := 8) sc_round_way.nd rfl (Or.inl rfl)) pgs_nil)))
      (pss_cons (ps_set (i := 9) sc_round_way.nd rfl (Or.inl rfl) (pe_and (pe_cmpR op_eq (pe_ix ix_tup (pv 1) pe_int (fun _ _ => rfl)) pe_str (nomark _)) (pe_one (pe_cmpR op_eq (pe_op op_mod (pv 7) pe_int) pe_int (nomark _)))))
      (pss_cons (ps_set (i := 10) sc_round_way.nd rfl (Or.inl rfl) (pe_ifExp (pt_val (pv 9)) (pe_op op_sub (pv 7) (pv 4)) (pe_op op_add (pv 7) (pv 4))))
      (pss_one (ps_asg (pe_ix ix_list (pv 5) (pe_op op_mod (pv 10) (pe_callB cl_len (by rfl) T.n_len PySem.boot_len (pa_cons (pv 5) pa_nil))) (fun _ _ => rfl)) (pg_sub (pv 6) (pv 8) set_list))))))
      (pss_one (ps_ret (pv 6))))))), ?_⟩
    obtain ⟨n1, n2⟩ := id hn
    have hok' := hok
    cases c with
    | cross sp => cases hx
    | pass sp d => cases hx
    | corner sp d => cases hx
    | cast fi la => cases hx
    | lead fi la => cases hx
    | stand m => cases hx
    | ring fi la m =>
      simp only [Call.word, Call.nums, Call.Ok] at ha hok'
      obtain ⟨f, rfl⟩ := Int.eq_ofNat_of_zero_le hok'.1
      obtain ⟨l, rfl⟩ := Int.eq_ofNat_of_zero_le (show 0 ≤ la by omega)
      have hfl : f < l := by omega
      have hln : l < n := by omega
      have rl := ringN_len (f := f) (l := l) hfl
      walk_at "rd"
      rename_i t1 H1 ht1 s1 h1
      show gCons _ _ [V.int (f : Int), V.int (l : Int), V.int m] _ _ _
      walk_at "rd"
      refine rd_ring hn hfl hln fun pr H2 hpr s2 h2 => ?_
      walk_at "rd"
      refine rd_still hn fun pw H3 hpw s3 h3 => ?_
      have s03 : Same H H3 := s1.trans (s2.trans s3)
      have pw0 : H pw = none := s1.free (s2.free hpw)
      have pwr : pr ≠ pw := fun e => by rw [← e, h2] at hpw; cases hpw
      have h3r := s3 _ _ h2
      clear ht1 s1 h1 s2 h2 s3
      walk_at "rd"
      refine ⟨pr, rfl, ⟨_, SqL.of h3r⟩, for_e (xs := natV (ringN f l)) (fun i σ H4 => ∃ o5 o6 o7 o8, σ = [some (.int n), some (.ref a), some (.int f), some (.int l), some (.int m), some (.ref pr), some (.ref pw), o5, o6, o7, o8] ∧ Same H H4 ∧ H4 pr = some (.lst (natV (ringN f l))) ∧ H4 pw = some (.lst (natV (roundN n f l m false i)))) ⟨_, _, _, _, rfl, s03, h3r, h3⟩ (fun i σ H4 _ ⟨_, _, _, _, _, _, z, _⟩ => SqL.of z) ?_ ?_⟩
      · rintro i x σ H4 t H5 hx ⟨o5, o6, o7, o8, rfl, s4, h4r, h4w⟩ ht s5 h5
        have hi : i < (ringN f l).length := by have := (List.getElem?_eq_some_iff.mp hx).1; rw [natV_len] at this; exact this
        obtain ⟨q, hq⟩ : ∃ q, (ringN f l)[i]? = some q := ⟨(ringN f l)[i], List.getElem?_eq_getElem hi⟩
        rw [natV_at hq] at hx
        cases hx
        have ql := ringN_lt (n := n) (by omega) (by omega) (List.mem_of_getElem? hq)
        have gb : ∀ z : Int, 0 ≤ z % ((ringN f l).length : Int) ∧ z % ((ringN f l).length : Int) < (ringN f l).length := fun z => ⟨Int.emod_nonneg _ (by omega), Int.emod_lt_of_pos _ (by omega)⟩
        walk_at "rd"
        rw [natV_len]
        refine i_rI (by omega) ?_
        obtain ⟨q2, hq2⟩ : ∃ q2, (ringN f l)[(((i : Int) + m) % ((ringN f l).length : Int)).toNat]? = some q2 := ⟨_, List.getElem?_eq_getElem (by have := gb ((i : Int) + m); omega)⟩
        refine rd_ixL (s5 _ _ h4r) (atI_int (gb _).1 (natV_at hq2)) ?_
        walk_at "rd"
        refine i_setL (s5 _ _ h4w) (by omega) (by rw [natV_len, roundN_len]; omega) fun H6 h6 h6o => ?_
        rw [Int.toNat_natCast, natV_set] at h6
        refine ⟨_, _, _, _, rfl, fun b o e => h6o b o (ne_of_none e pw0) (s5 _ _ (s4 _ _ e)), h6o _ _ pwr (s5 _ _ h4r), ?_⟩
        rw [h6]
        unfold roundN
        rw [List.range_succ, List.foldl_append, List.foldl_cons, List.foldl_nil, List.getD_eq_getElem?_getD, hq, List.getD_eq_getElem?_getD, show goalN (ringN f l).length false m i = (((i : Int) + m) % ((ringN f l).length : Int)).toNat from by unfold goalN; rw [if_neg (fun z => by cases z.1)], hq2]
        rfl
      · rintro σ H4 ⟨o5, o6, o7, o8, rfl, s4, h4r, h4w⟩
        walk_at "rd"
        rw [natV_len] at h4w
        exact k _ _ s4 h4w
    | chain fi la m =>
      simp only [Call.word, Call.nums, Call.Ok] at ha hok'
      obtain ⟨f, rfl⟩ := Int.eq_ofNat_of_zero_le hok'.1
      obtain ⟨l, rfl⟩ := Int.eq_ofNat_of_zero_le (show 0 ≤ la by omega)
      have hfl : f < l := by omega
      have hln : l < n := by omega
      have rl := ringN_len (f := f) (l := l) hfl
      walk_at "rd"
      rename_i t1 H1 ht1 s1 h1
      show gCons _ _ [V.int (f : Int), V.int (l : Int), V.int m] _ _ _
      walk_at "rd"
      refine rd_ring hn hfl hln fun pr H2 hpr s2 h2 => ?_
      walk_at "rd"
      refine rd_still hn fun pw H3 hpw s3 h3 => ?_
      have s03 : Same H H3 := s1.trans (s2.trans s3)
      have pw0 : H pw = none := s1.free (s2.free hpw)
      have pwr : pr ≠ pw := fun e => by rw [← e, h2] at hpw; cases hpw
      have h3r := s3 _ _ h2
      clear ht1 s1 h1 s2 h2 s3
      walk_at "rd"
      refine ⟨pr, rfl, ⟨_, SqL.of h3r⟩, for_e (xs := natV (ringN f l)) (fun i σ H4 => ∃ o5 o6 o7 o8, σ = [some (.int n), some (.ref a), some (.int f), some (.int l), some (.int m), some (.ref pr), some (.ref pw), o5, o6, o7, o8] ∧ Same H H4 ∧ H4 pr = some (.lst (natV (ringN f l))) ∧ H4 pw = some (.lst (natV (roundN n f l m true i)))) ⟨_, _, _, _, rfl, s03, h3r, h3⟩ (fun i σ H4 _ ⟨_, _, _, _, _, _, z, _⟩ => SqL.of z) ?_ ?_⟩
      · rintro i x σ H4 t H5 hx ⟨o5, o6, o7, o8, rfl, s4, h4r, h4w⟩ ht s5 h5
        have hi : i < (ringN f l).length := by have := (List.getElem?_eq_some_iff.mp hx).1; rw [natV_len] at this; exact this
        obtain ⟨q, hq⟩ : ∃ q, (ringN f l)[i]? = some q := ⟨(ringN f l)[i], List.getElem?_eq_getElem hi⟩
        rw [natV_at hq] at hx
        cases hx
        have ql := ringN_lt (n := n) (by omega) (by omega) (List.mem_of_getElem? hq)
        have gb : ∀ z : Int, 0 ≤ z % ((ringN f l).length : Int) ∧ z % ((ringN f l).length : Int) < (ringN f l).length := fun z => ⟨Int.emod_nonneg _ (by omega), Int.emod_lt_of_pos _ (by omega)⟩
        walk_at "rd"
        refine ite2 (fun cc => ?_) (fun cc => ?_)
        · have c1 : i % 2 = 1 := by have := V.int.inj (of_decide_eq_true cc); omega
          walk_at "rd"
          rw [natV_len]
          refine i_rI (by omega) ?_
          obtain ⟨q2, hq2⟩ : ∃ q2, (ringN f l)[(((i : Int) - m) % ((ringN f l).length : Int)).toNat]? = some q2 := ⟨_, List.getElem?_eq_getElem (by have := gb ((i : Int) - m); omega)⟩
          refine rd_ixL (s5 _ _ h4r) (atI_int (gb _).1 (natV_at hq2)) ?_
          walk_at "rd"
          refine i_setL (s5 _ _ h4w) (by omega) (by rw [natV_len, roundN_len]; omega) fun H6 h6 h6o => ?_
          rw [Int.toNat_natCast, natV_set] at h6
          refine ⟨_, _, _, _, rfl, fun b o e => h6o b o (ne_of_none e pw0) (s5 _ _ (s4 _ _ e)), h6o _ _ pwr (s5 _ _ h4r), ?_⟩
          rw [h6]
          unfold roundN
          rw [List.range_succ, List.foldl_append, List.foldl_cons, List.foldl_nil, List.getD_eq_getElem?_getD, hq, List.getD_eq_getElem?_getD, show goalN (ringN f l).length true m i = (((i : Int) - m) % ((ringN f l).length : Int)).toNat from by unfold goalN; rw [if_pos ⟨rfl, c1⟩], hq2]
          rfl
        · have c1 : ¬ i % 2 = 1 := fun z => cc (decide_eq_true (congrArg V.int (by omega)))
          walk_at "rd"
          rw [natV_len]
          refine i_rI (by omega) ?_
          obtain ⟨q2, hq2⟩ : ∃ q2, (ringN f l)[(((i : Int) + m) % ((ringN f l).length : Int)).toNat]? = some q2 := ⟨_, List.getElem?_eq_getElem (by have := gb ((i : Int) + m); omega)⟩
          refine rd_ixL (s5 _ _ h4r) (atI_int (gb _).1 (natV_at hq2)) ?_
          walk_at "rd"
          refine i_setL (s5 _ _ h4w) (by omega) (by rw [natV_len, roundN_len]; omega) fun H6 h6 h6o => ?_
          rw [Int.toNat_natCast, natV_set] at h6
          refine ⟨_, _, _, _, rfl, fun b o e => h6o b o (ne_of_none e pw0) (s5 _ _ (s4 _ _ e)), h6o _ _ pwr (s5 _ _ h4r), ?_⟩
          rw [h6]
          unfold roundN
          rw [List.range_succ, List.foldl_append, List.foldl_cons, List.foldl_nil, List.getD_eq_getElem?_getD, hq, List.getD_eq_getElem?_getD, show goalN (ringN f l).length true m i = (((i : Int) + m) % ((ringN f l).length : Int)).toNat from by unfold goalN; rw [if_neg (fun z => c1 z.2)], hq2]
          rfl
      · rintro σ H4 ⟨o5, o6, o7, o8, rfl, s4, h4r, h4w⟩
        walk_at "rd"
        rw [natV_len] at h4w
        exact k _ _ s4 h4w
theorem sc_exchange_way : FnScope ["spots", "call", "way", "one", "other"] ["spots", "call"] (defScope s_exchange_way) := ⟨rfl, rfl, rfl, by decide +kernel, rfl, by decide +kernel, by decide +kernel⟩
theorem ok_exchange_way {f : Addr} {fd : FuncData} (F : Fun K "exchange_way" "exchange_way" s_exchange_way f fd) (T : Txt P w K mg)  (F_still : FnAt P w K mg base "still" 2 spStill) (F_exchange_places : FnAt P w K mg base "exchange_places" 1 spExch) : FnOk P w K mg base CX0 (2 + 1) f fd ["spots", "call"] spExchW := by
  refine F.ok sc_exchange_way (fun vs H Q E h => ?_) (fun cdv A outer s H vs Q E hr h => ?_)
  · obtain ⟨n, v, c, rfl, _⟩ := h
    rfl
  · obtain ⟨n, v, c, rfl, ⟨a, rfl, ha⟩, hn, hok, hx, k⟩ := h
    refine ⟨_, (pss_cons (ps_set (i := 2) sc_exchange_way.nd rfl (Or.inl rfl) (pe_fn F_still (hr.mono (by omega)) (pa_cons (pv 0) pa_nil)))
      (pss_cons (ps_asg (pe_fn F_exchange_places (hr.mono (by omega)) (pa_cons (pv 1) pa_nil)) (pg_lst rfl (pgs_cons (pg_name (i := 3) sc_exchange_way.nd rfl (Or.inl rfl)) (pgs_cons (pg_name (i := 4) sc_exchange_way.nd rfl (Or.inl rfl)) pgs_nil))))
      (pss_cons (ps_asg (pe_tup (pa_cons (pv 4) (pa_cons (pv 3) pa_nil))) (pg_tup rfl (pgs_cons (pg_sub (pv 2) (pv 3) set_list) (pgs_cons (pg_sub (pv 2) (pv 4) set_list) pgs_nil))))
      (pss_one (ps_ret (pv 2)))))), ?_⟩
    obtain ⟨n1, n2⟩ := id hn
    have hca : CallAt H (.ref a) c := ⟨a, rfl, ha⟩
    cases c with
    | ring fi la m => cases hx
    | chain fi la m => cases hx
    | cast fi la => cases hx
    | lead fi la => cases hx
    | stand m => cases hx
    | cross sp =>
      simp only [Call.word, Call.nums, Call.Ok] at ha hok
      obtain ⟨s, rfl⟩ := Int.eq_ofNat_of_zero_le hok.1
      walk_at "rd"
      refine rd_still hn fun pw H2 hpw s2 h2 => ?_
      walk_at "rd"
      rename_i pe H3 hpe s3 h3
      have et : Call.takes (.cross (s : Int)) = [.int ((2 * s : Nat) : Int), .int ((2 * s + 1 : Nat) : Int)] := by
        rw [show ((2 * s : Nat) : Int) = 2 * (s : Int) from by omega, show ((2 * s + 1 : Nat) : Int) = 2 * (s : Int) + 1 from by omega]
        rfl
      rw [et]
      walk_at "rd"
      rename_i t4 H4 ht4 s4 h4
      have h4w : H4 pw = some (.lst (natV (stillN n))) := by walk_at "hp"
      refine i_setL h4w (by omega) (by rw [natV_len]; unfold stillN; rw [List.length_range]; omega) fun H5 h5 h5o => ?_
      rw [Int.toNat_natCast, natV_set] at h5
      walk_at "rd"
      refine i_setL h5 (by omega) (by rw [natV_len, List.length_set]; unfold stillN; rw [List.length_range]; omega) fun H6 h6 h6o => ?_
      rw [Int.toNat_natCast, natV_set] at h6
      walk_at "rd"
      refine k _ _ (fun b o e => h6o b o (ne_of_none e hpw) (h5o b o (ne_of_none e hpw) (s4 _ _ (s3 _ _ (s2 _ _ e))))) ?_
      rw [h6]
      simp only [Call.way, exchN, Int.toNat_natCast]
    | pass sp d =>
      simp only [Call.word, Call.nums, Call.Ok] at ha hok
      obtain ⟨s, rfl⟩ := Int.eq_ofNat_of_zero_le hok.1
      obtain ⟨e, rfl⟩ := Int.eq_ofNat_of_zero_le (show 0 ≤ d by omega)
      walk_at "rd"
      refine rd_still hn fun pw H2 hpw s2 h2 => ?_
      walk_at "rd"
      rename_i pe H3 hpe s3 h3
      have et : Call.takes (.pass (s : Int) (e : Int)) = [.int ((2 * s + e : Nat) : Int), .int ((2 * s + 2 + e : Nat) : Int)] := by
        rw [show ((2 * s + e : Nat) : Int) = 2 * (s : Int) + (e : Int) from by omega, show ((2 * s + 2 + e : Nat) : Int) = 2 * (s : Int) + 2 + (e : Int) from by omega]
        rfl
      rw [et]
      walk_at "rd"
      rename_i t4 H4 ht4 s4 h4
      have h4w : H4 pw = some (.lst (natV (stillN n))) := by walk_at "hp"
      refine i_setL h4w (by omega) (by rw [natV_len]; unfold stillN; rw [List.length_range]; omega) fun H5 h5 h5o => ?_
      rw [Int.toNat_natCast, natV_set] at h5
      walk_at "rd"
      refine i_setL h5 (by omega) (by rw [natV_len, List.length_set]; unfold stillN; rw [List.length_range]; omega) fun H6 h6 h6o => ?_
      rw [Int.toNat_natCast, natV_set] at h6
      walk_at "rd"
      refine k _ _ (fun b o e => h6o b o (ne_of_none e hpw) (h5o b o (ne_of_none e hpw) (s4 _ _ (s3 _ _ (s2 _ _ e))))) ?_
      rw [h6]
      simp only [Call.way, exchN, Int.toNat_natCast]
    | corner sp d =>
      simp only [Call.word, Call.nums, Call.Ok] at ha hok
      obtain ⟨s, rfl⟩ := Int.eq_ofNat_of_zero_le hok.1
      obtain ⟨e, rfl⟩ := Int.eq_ofNat_of_zero_le (show 0 ≤ d by omega)
      walk_at "rd"
      refine rd_still hn fun pw H2 hpw s2 h2 => ?_
      walk_at "rd"
      rename_i pe H3 hpe s3 h3
      have et : Call.takes (.corner (s : Int) (e : Int)) = [.int ((2 * s + e : Nat) : Int), .int ((2 * s + 3 - e : Nat) : Int)] := by
        rw [show ((2 * s + e : Nat) : Int) = 2 * (s : Int) + (e : Int) from by omega, show ((2 * s + 3 - e : Nat) : Int) = 2 * (s : Int) + 3 - (e : Int) from by omega]
        rfl
      rw [et]
      walk_at "rd"
      rename_i t4 H4 ht4 s4 h4
      have h4w : H4 pw = some (.lst (natV (stillN n))) := by walk_at "hp"
      refine i_setL h4w (by omega) (by rw [natV_len]; unfold stillN; rw [List.length_range]; omega) fun H5 h5 h5o => ?_
      rw [Int.toNat_natCast, natV_set] at h5
      walk_at "rd"
      refine i_setL h5 (by omega) (by rw [natV_len, List.length_set]; unfold stillN; rw [List.length_range]; omega) fun H6 h6 h6o => ?_
      rw [Int.toNat_natCast, natV_set] at h6
      walk_at "rd"
      refine k _ _ (fun b o e => h6o b o (ne_of_none e hpw) (h5o b o (ne_of_none e hpw) (s4 _ _ (s3 _ _ (s2 _ _ e))))) ?_
      rw [h6]
      simp only [Call.way, exchN, Int.toNat_natCast]
theorem sc_call_way : FnScope ["spots", "call", "word"] ["spots", "call"] (defScope s_call_way) := ⟨rfl, rfl, rfl, by decide +kernel, rfl, by decide +kernel, by decide +kernel⟩
theorem ok_call_way {f : Addr} {fd : FuncData} (F : Fun K "call_way" "call_way" s_call_way f fd) (T : Txt P w K mg)  (F_look_call : FnAt P w K mg base "look_call" 3 spCall) (F_still : FnAt P w K mg base "still" 2 spStill) (F_round_way : FnAt P w K mg base "round_way" 3 spRoundW) (F_cast_way : FnAt P w K mg base "cast_way" 3 spCast) (F_undone : FnAt P w K mg base "undone" 3 spUndone) (F_exchange_way : FnAt P w K mg base "exchange_way" 3 spExchW) : FnOk P w K mg base CX0 (3 + 1) f fd ["spots", "call"] spWay := by
  refine F.ok sc_call_way (fun vs H Q E h => ?_) (fun cdv A outer s H vs Q E hr h => ?_)
  · obtain ⟨n, v, c, rfl, _⟩ := h
    rfl
  · obtain ⟨n, v, c, rfl, hca, hn, hok, k⟩ := h
    refine ⟨_, (pss_cons (ps_expr (pe_fn F_look_call (hr.mono (by omega)) (pa_cons (pv 0) (pa_cons (pv 1) pa_nil))))
      (pss_cons (ps_set (i := 2) sc_call_way.nd rfl (Or.inl rfl) (pe_ix ix_tup (pv 1) pe_int (fun _ _ => rfl)))
      (pss_cons (ps_if (pt_cmpR op_eq (pv 2) pe_str (nomark _))
      (pss_one (ps_ret (pe_fn F_still (hr.mono (by omega)) (pa_cons (pv 0) pa_nil))))
      pss_nil)
      (pss_cons (ps_if (pt_cmpR op_in_seq (pv 2) (pe_tup (pa_cons pe_str (pa_cons pe_str pa_nil))) rfl)
      (pss_one (ps_ret (pe_fn F_round_way (hr.mono (by omega)) (pa_cons (pv 0) (pa_cons (pv 1) pa_nil)))))
      pss_nil)
      (pss_cons (ps_if (pt_cmpR op_eq (pv 2) pe_str (nomark _))
      (pss_one (ps_ret (pe_fn F_cast_way (hr.mono (by omega)) (pa_cons (pv 0) (pa_cons (pe_ix ix_tup (pv 1) pe_int (fun _ _ => rfl)) (pa_cons (pe_ix ix_tup (pv 1) pe_int (fun _ _ => rfl)) pa_nil))))))
      pss_nil)
      (pss_cons (ps_if (pt_cmpR op_eq (pv 2) pe_str (nomark _))
      (pss_one (ps_ret (pe_fn F_undone (hr.mono (by omega)) (pa_cons (pv 0) (pa_cons (pe_fn F_cast_way (hr.mono (by omega)) (pa_cons (pv 0) (pa_cons (pe_ix ix_tup (pv 1) pe_int (fun _ _ => rfl)) (pa_cons (pe_ix ix_tup (pv 1) pe_int (fun _ _ => rfl)) pa_nil)))) pa_nil)))))
      pss_nil)
      (pss_one (ps_ret (pe_fn F_exchange_way (hr.mono (by omega)) (pa_cons (pv 0) (pa_cons (pv 1) pa_nil))))))))))), ?_⟩
    obtain ⟨n1, n2⟩ := id hn
    obtain ⟨a, rfl, ha⟩ := id hca
    have hok' := hok
    cases c with
    | ring fi la m =>
      simp only [Call.word, Call.nums, Call.Ok] at ha hok'
      walk_at "rd"
      refine rd_roundw (c := .ring fi la m) (by walk_at "ca") hn hok rfl fun p H2 s2 h2 => ?_
      exact k _ _ (by walk_at "sm") h2
    | chain fi la m =>
      simp only [Call.word, Call.nums, Call.Ok] at ha hok'
      walk_at "rd"
      refine rd_roundw (c := .chain fi la m) (by walk_at "ca") hn hok rfl fun p H2 s2 h2 => ?_
      exact k _ _ (by walk_at "sm") h2
    | cross sp =>
      simp only [Call.word, Call.nums, Call.Ok] at ha hok'
      walk_at "rd"
      refine rd_exchw (c := .cross sp) (by walk_at "ca") hn hok rfl fun p H2 s2 h2 => ?_
      exact k _ _ (by walk_at "sm") h2
    | pass sp d =>
      simp only [Call.word, Call.nums, Call.Ok] at ha hok'
      walk_at "rd"
      refine rd_exchw (c := .pass sp d) (by walk_at "ca") hn hok rfl fun p H2 s2 h2 => ?_
      exact k _ _ (by walk_at "sm") h2
    | corner sp d =>
      simp only [Call.word, Call.nums, Call.Ok] at ha hok'
      walk_at "rd"
      refine rd_exchw (c := .corner sp d) (by walk_at "ca") hn hok rfl fun p H2 s2 h2 => ?_
      exact k _ _ (by walk_at "sm") h2
    | cast fi la =>
      simp only [Call.word, Call.nums, Call.Ok] at ha hok'
      obtain ⟨f, rfl⟩ := Int.eq_ofNat_of_zero_le hok'.1
      obtain ⟨l, rfl⟩ := Int.eq_ofNat_of_zero_le (show 0 ≤ la by omega)
      walk_at "rd"
      refine rd_cast hn (by omega) (by omega) fun p H2 hp s2 h2 => ?_
      exact k _ _ (by walk_at "sm") h2
    | lead fi la =>
      simp only [Call.word, Call.nums, Call.Ok] at ha hok'
      obtain ⟨f, rfl⟩ := Int.eq_ofNat_of_zero_le hok'.1
      obtain ⟨l, rfl⟩ := Int.eq_ofNat_of_zero_le (show 0 ≤ la by omega)
      walk_at "rd"
      refine rd_cast hn (by omega) (by omega) fun p H2 hp s2 h2 => ?_
      walk_at "rd"
      refine rd_undone hn h2 (cast_perm n (by omega) l (by omega) f (by omega)) fun p3 H3 s3 h3 => ?_
      exact k _ _ (by walk_at "sm") h3
    | stand m =>
      simp only [Call.word, Call.nums, Call.Ok] at ha hok'
      walk_at "rd"
      refine rd_still hn fun p H2 hp s2 h2 => ?_
      exact k _ _ (by walk_at "sm") h2
end


def spLRing : Sp := fun vs H Q _ => ∃ f l : Nat, vs = [.int f, .int l] ∧ f < l ∧ l < 6 ∧ ∀ p H', H p = none → Same H H' → H' p = some (.lst (natV (ringN f l))) → Q (.ref p) H'
theorem rd_lring {H : Hp} {Q : VK} {E : XK} {f l : Nat} (h1 : f < l) (h2 : l < 6) (q : ∀ p H', H p = none → Same H H' → H' p = some (.lst (natV (ringN f l))) → Q (.ref p) H') : spLRing [.int f, .int l] H Q E := ⟨f, l, rfl, h1, h2, q⟩
def rg (f l i : Nat) : Nat := (ringN f l).getD i 0
theorem rg_at {f l i : Nat} (h : i < (ringN f l).length) : (ringN f l)[i]? = some (rg f l i) := by unfold rg; rw [List.getD_eq_getElem?_getD, List.getElem?_eq_getElem h]; rfl
def stepN (f l : Nat) (neg ch : Bool) (j : Nat) : List (Nat × Nat) :=
  if ch = true then (List.range (((ringN f l).length - (j + if neg = true then 1 else 0) % 2 + 1) / 2)).map fun i => (rg f l ((j + if neg = true then 1 else 0) % 2 + i * 2), rg f l (((j + if neg = true then 1 else 0) % 2 + i * 2 + 1) % (ringN f l).length))
  else if neg = true then (List.range ((ringN f l).length - 1)).map fun i => (rg f l i, rg f l (i + 1)) else ((List.range ((ringN f l).length - 1)).map fun i => (rg f l i, rg f l (i + 1))).reverse
theorem stepN_len {f l j : Nat} {neg ch : Bool} (h : (ringN f l).length ≤ 12) : (stepN f l neg ch j).length ≤ 12 := by
  unfold stepN
  by_cases c1 : ch = true
  · rw [if_pos c1, List.length_map, List.length_range]; omega
  · rw [if_neg c1]
    by_cases c2 : neg = true
    · rw [if_pos c2, List.length_map, List.length_range]; omega
    · rw [if_neg c2, List.length_reverse, List.length_map, List.length_range]; omega
theorem small_two {a b : Int} (ha : -1000 ≤ a) (ha' : a ≤ 1000) (hb : -1000 ≤ b) (hb' : b ≤ 1000) : Builtin.Range.small a b 2 = true := by
  unfold Builtin.Range.small Builtin.Range.rangeSize
  simp only [Builtin.Range.rangeFitsLong, Bool.and_eq_true, Bool.or_eq_true, decide_eq_true_eq, beq_iff_eq, show (2 : Int) > 0 by decide, if_true]
  split <;> omega
def stepsN (f l : Nat) (neg ch : Bool) (j : Nat) : List (Nat × Nat) := (List.range j).flatMap (stepN f l neg ch)
theorem stepsN_succ {f l j : Nat} {neg ch : Bool} : stepsN f l neg ch (j + 1) = stepsN f l neg ch j ++ stepN f l neg ch j := by unfold stepsN; rw [List.range_succ, List.flatMap_append]; simp
theorem stepsN_len {f l : Nat} {neg ch : Bool} (h : (ringN f l).length ≤ 12) : ∀ j, (stepsN f l neg ch j).length ≤ 12 * j
  | 0 => by simp [stepsN]
  | j + 1 => by rw [stepsN_succ, List.length_append]; have := stepsN_len (neg := neg) (ch := ch) h j; have := stepN_len (j := j) (neg := neg) (ch := ch) h; omega
def Call.rsw : Call → List (Nat × Nat)
  | .ring f l m => stepsN f.toNat l.toNat (decide (m < 0)) false m.natAbs
  | .chain f l m => stepsN f.toNat l.toNat (decide (m < 0)) true m.natAbs
  | _ => []
def spRSw : Sp := fun vs H Q _ => ∃ (n : Nat) (v : V) (c : Call), vs = [v] ∧ CallAt H v c ∧ spots n ∧ c.Ok n ∧ c.isRound = true ∧ ∀ p H', Same H H' → PairsR H' p c.rsw → Q (.ref p) H'
theorem rd_rsw {H : Hp} {Q : VK} {E : XK} {n : Nat} {v : V} {c : Call} (h : CallAt H v c) (h1 : spots n) (h2 : c.Ok n) (h3 : c.isRound = true) (q : ∀ p H', Same H H' → PairsR H' p c.rsw → Q (.ref p) H') : spRSw [v] H Q E := ⟨n, v, c, rfl, h, h1, h2, h3, q⟩
theorem cat_pairs {K : PySem.W.Frag} {H : Hp} {Q : VK} {a b : Addr} {x y : List (Nat × Nat)} (h1 : PairsR H a x) (h2 : PairsR H b y) (l : x.length + y.length ≤ 1000) (q : ∀ p H', H p = none → Same H H' → PairsR H' p (x ++ y) → Q (.ref p) H') : rCat (.ref a) (.ref b) H Q := by
  obtain ⟨ts, e1, p1⟩ := h1
  obtain ⟨us, e2, p2⟩ := h2
  refine i_cat e1 e2 (Nat.le_trans (by rw [List.length_map, List.length_map, p1.length, p2.length]; exact l) k1000) fun p H' hp s h => q p H' hp s ⟨ts ++ us, by rw [h, List.map_append], pr_app (pr_same s p1) (pr_same s p2)⟩
section
variable {P : Program} {w : World} {K : PySem.W.Frag} {mg : Str → Option Value} {base : Heap}
theorem sc__law_ring : FnScope ["_law_first", "_law_last", "_law_found", "_law_spot"] ["_law_first", "_law_last"] (defScope s__law_ring) := ⟨rfl, rfl, rfl, by decide +kernel, rfl, by decide +kernel, by decide +kernel⟩
theorem ok__law_ring {f : Addr} {fd : FuncData} (F : Fun K "_law_ring" "_law_ring" s__law_ring f fd) (T : Txt P w K mg)   : FnOk P w K mg base CX0 (0 + 1) f fd ["_law_first", "_law_last"] spLRing := by
  refine F.ok sc__law_ring (fun vs H Q E h => ?_) (fun cdv A outer s H vs Q E hr h => ?_)
  · obtain ⟨f, l, rfl, _⟩ := h
    rfl
  · obtain ⟨fi, la, rfl, h1, h2, k⟩ := h
    refine ⟨_, (pss_cons (ps_set (i := 2) sc__law_ring.nd rfl (Or.inl rfl) (pe_lst (pa_cons (pe_op op_mul pe_int (pv 0)) pa_nil)))
      (pss_cons (ps_for PassesOwn.never rfl (pi_range2 rfl T.n_range (pa_cons (pv 0) (pa_cons (pe_op op_add (pv 1) pe_int) pa_nil))) (pg_name (i := 3) sc__law_ring.nd rfl (Or.inl rfl))
      (pss_one (ps_expr (pe_bm PySem.F.plainAttrs_list PySem.F.slot_list_append PySem.F.type_list_append mt_append (pv 2) (pa_cons (pe_op op_add (pe_op op_mul pe_int (pv 3)) pe_int) pa_nil)))))
      (pss_one (ps_ret (pe_op op_cat (pv 2) (pe_comp (N := ["_law_k", "_law_last"]) (k := 1) (caps := [1]) rfl (compOk_of ["_law_first", "_law_last", "_law_found", "_law_spot"] (defScope s__law_ring).names (by decide +kernel)) (pi_range1 rfl T.n_range (pa_cons (pe_op op_sub (pv 1) (pv 0)) pa_nil)) (fun _ _ _ _ => (pg_name (i := 0) (show List.Nodup (["_law_k", "_law_last"] : List Str) by decide +kernel) rfl (Or.inl rfl))) (fun _ _ _ _ => pcs_nil) (fun _ _ _ _ => (pe_op op_mul pe_int (pe_op op_sub (pv 1) (pv 0)))))))))), ?_⟩
    walk_at "rd"
    rename_i p1 H1 hp1 s1 e1
    refine ⟨_, _, rfl, by omega, ?_⟩
    rw [show ((la : Int) + 1 - fi).toNat = la + 1 - fi from by omega]
    refine for_r (fun i σ H3 => ∃ o3, σ = [some (.int fi), some (.int la), some (.ref p1), o3] ∧ Same H H3 ∧ H3 p1 = some (.lst (natV ([2 * fi] ++ (List.range i).map fun i => 2 * (fi + i) + 1)))) ⟨_, rfl, s1, by rw [e1]; simp [natV]⟩ ?_ ?_
    · rintro i σ H3 hi ⟨o3, rfl, s3, h3⟩
      walk_at "rd"
      refine i_app2 h3 (Nat.lt_of_lt_of_le (by rw [natV_len]; simp; omega : _ < 1000) k1000) fun H4 h4 h4o => ?_
      walk_at "rd"
      refine ⟨_, rfl, fun b o e => h4o b o (ne_of_none e hp1) (s3 _ _ e), ?_⟩
      rw [h4, show 2 * ((fi : Int) + (i : Int)) + 1 = ((2 * (fi + i) + 1 : Nat) : Int) from by omega, show [V.int ((2 * (fi + i) + 1 : Nat) : Int)] = natV [2 * (fi + i) + 1] from rfl, natV_app, List.range_succ, List.map_append, ← List.append_assoc]
      rfl
    · rintro σ H3 ⟨o3, rfl, s3, h3⟩
      walk_at "rd"
      refine ⟨by omega, by omega, comp_rm (fun i => .int ((2 * (la - i) : Nat) : Int)) ?_ ?_⟩
      · intro D i own H4 hD hi ho s4 e4
        obtain ⟨o, rfl⟩ : ∃ o, own = [o] := by
          match own, ho with
          | [o], _ => exact ⟨o, rfl⟩
        have hi' : i < la - fi := by omega
        walk_at "rd"
        exact yieldM [some (.int (0 + (i : Int)))] (by omega) hi hD s4 e4 (by walk_at "sm") (congrArg V.int (by omega)) rfl rfl
      intro D2 H4 hD2 s4 e4
      rw [natV_map, show ((la : Int) - fi).toNat = la - fi from by omega] at e4
      walk_at "rd"
      refine i_cat (s4 _ _ h3) e4 (Nat.le_trans (by rw [natV_len, natV_len]; simp; omega : _ ≤ 1000) k1000) fun p5 H5 hp5 s5 h5 => ?_
      rw [natV_app] at h5
      exact k _ _ (s3.free (s4.free hp5)) (s3.trans (s4.trans s5)) h5
theorem sc__law_ring_swaps : FnScope ["_law_call_here", "_law_ring_here", "_law_size", "_law_found", "_law_step", "_law_here", "_law_begin"] ["_law_call_here"] (defScope s__law_ring_swaps) := ⟨rfl, rfl, rfl, by decide +kernel, rfl, by decide +kernel, by decide +kernel⟩
theorem ok__law_ring_swaps {f : Addr} {fd : FuncData} (F : Fun K "_law_ring_swaps" "_law_ring_swaps" s__law_ring_swaps f fd) (T : Txt P w K mg)  (F__law_ring : FnAt P w K mg base "_law_ring" 1 spLRing) : FnOk P w K mg base CX0 (1 + 1) f fd ["_law_call_here"] spRSw := by
  refine F.ok sc__law_ring_swaps (fun vs H Q E h => ?_) (fun cdv A outer s H vs Q E hr h => ?_)
  · obtain ⟨n, v, c, rfl, _⟩ := h
    rfl
  · obtain ⟨n, v, c, rfl, ⟨a, rfl, ha⟩, hn, hok, hx, k⟩ := h
    refine ⟨_, (pss_cons (ps_set (i := 1) sc__law_ring_swaps.nd rfl (Or.inr rfl) (pe_fn F__law_ring (hr.mono (by omega)) (pa_cons (pe_ix ix_tup (pv 0) pe_int (fun _ _ => rfl)) (pa_cons (pe_ix ix_tup (pv 0) pe_int (fun _ _ => rfl)) pa_nil))))
      (pss_cons (ps_set (i := 2) sc__law_ring_swaps.nd rfl (Or.inr rfl) (pe_callB cl_len (by rfl) T.n_len PySem.boot_len (pa_cons (pv 1) pa_nil)))
      (pss_cons (ps_set (i := 3) sc__law_ring_swaps.nd rfl (Or.inl rfl) (pe_lst pa_nil))
      (pss_cons (ps_for PassesOwn.never rfl (pi_range1 rfl T.n_range (pa_cons (pe_callB call_abs (by rfl) T.n_abs bt_abs (pa_cons (pe_ix ix_tup (pv 0) pe_int (fun _ _ => rfl)) pa_nil)) pa_nil)) (pg_name (i := 4) sc__law_ring_swaps.nd rfl (Or.inl rfl))
      (pss_one (ps_if (pt_cmpR op_eq (pe_ix ix_tup (pv 0) pe_int (fun _ _ => rfl)) pe_str (nomark _))
      (pss_cons (ps_setC (iy := 5) (N := ["_law_at", "_law_ring_here"]) (k := 1) (caps := [1]) rfl (compOk_of ["_law_call_here", "_law_ring_here", "_law_size", "_law_found", "_law_step", "_law_here", "_law_begin"] (defScope s__law_ring_swaps).names (by decide +kernel)) (pi_range1 rfl T.n_range (pa_cons (pe_op op_sub (pv 2) pe_int) pa_nil)) (fun _ _ _ _ => (pg_name (i := 0) (show List.Nodup (["_law_at", "_law_ring_here"] : List Str) by decide +kernel) rfl (Or.inl rfl))) (fun _ _ _ _ => pcs_nil) (fun _ _ _ _ => (pe_tup (pa_cons (pe_ix (kIx (r := rIxL) (K := K) ix_list rfl) (pv 1) (pv 0) (fun _ _ => rfl)) (pa_cons (pe_ix (kIx (r := rIxL) (K := K) ix_list rfl) (pv 1) (pe_op op_add (pv 0) pe_int) (fun _ _ => rfl)) pa_nil)))) sc__law_ring_swaps.nd rfl (Or.inl rfl))
      (pss_one (ps_set (i := 3) sc__law_ring_swaps.nd rfl (Or.inl rfl) (pe_op op_cat (pv 3) (pe_ifExp (pt_cmpR op_lt (pe_ix ix_tup (pv 0) pe_int (fun _ _ => rfl)) pe_int (nomark _)) (pv 5) (pe_rev (pv 5)))))))
      (pss_cons (ps_set (i := 6) sc__law_ring_swaps.nd rfl (Or.inl rfl) (pe_op op_mod (pe_op op_add (pv 4) (pe_callTy cl_int1 (by rfl) T.n_int bt_int (pa_cons (pe_cmpR op_lt (pe_ix ix_tup (pv 0) pe_int (fun _ _ => rfl)) pe_int (nomark _)) pa_nil))) pe_int))
      (pss_one (ps_set (i := 3) sc__law_ring_swaps.nd rfl (Or.inl rfl) (pe_op op_cat (pv 3) (pe_comp (N := ["_law_at", "_law_ring_here", "_law_size"]) (k := 1) (caps := [1, 2]) rfl (compOk_of ["_law_call_here", "_law_ring_here", "_law_size", "_law_found", "_law_step", "_law_here", "_law_begin"] (defScope s__law_ring_swaps).names (by decide +kernel)) (pi_range3 rfl T.n_range (pa_cons (pv 6) (pa_cons (pv 2) (pa_cons pe_int pa_nil)))) (fun _ _ _ _ => (pg_name (i := 0) (show List.Nodup (["_law_at", "_law_ring_here", "_law_size"] : List Str) by decide +kernel) rfl (Or.inl rfl))) (fun _ _ _ _ => pcs_nil) (fun _ _ _ _ => (pe_tup (pa_cons (pe_ix (kIx (r := rIxL) (K := K) ix_list rfl) (pv 1) (pv 0) (fun _ _ => rfl)) (pa_cons (pe_ix (kIx (r := rIxL) (K := K) ix_list rfl) (pv 1) (pe_op op_mod (pe_op op_add (pv 0) pe_int) (pv 2)) (fun _ _ => rfl)) pa_nil))))))))))))
      (pss_one (ps_ret (pv 3))))))), ?_⟩
    obtain ⟨n1, n2⟩ := id hn
    have hok' := hok
    cases c with
    | cross sp => cases hx
    | pass sp d => cases hx
    | corner sp d => cases hx
    | cast fi la => cases hx
    | lead fi la => cases hx
    | stand m => cases hx
    | ring fi la m =>
      simp only [Call.word, Call.nums, Call.Ok] at ha hok'
      obtain ⟨f, rfl⟩ := Int.eq_ofNat_of_zero_le hok'.1
      obtain ⟨l, rfl⟩ := Int.eq_ofNat_of_zero_le (show 0 ≤ la by omega)
      have hfl : f < l := by omega
      have rl := ringN_len (f := f) (l := l) hfl
      have rl12 : (ringN f l).length ≤ 12 := by omega
      have nl : (natV (ringN f l)).length = (ringN f l).length := natV_len
      have ab : (if m < 0 then -m else m).toNat = m.natAbs ∧ (if m < 0 then -m else m) ≤ 64 ∧ 0 ≤ (if m < 0 then -m else m) := by split <;> omega
      walk_at "rd"
      refine rd_lring hfl (by omega) fun pr H2 hpr s2 h2 => ?_
      walk_at "rd"
      rename_i p3 H3 hp3 s3 h3
      refine ⟨by omega, by omega, ?_⟩
      rw [ab.1]
      refine for_r (fun j σ H4 => ∃ pf o4 o5 o6, σ = [some (.ref a), some (.ref pr), some (.int ((natV (ringN f l)).length : Nat)), some (.ref pf), o4, o5, o6] ∧ Same H H4 ∧ H4 pr = some (.lst (natV (ringN f l))) ∧ PairsR H4 pf (stepsN f l (decide (m < 0)) false j)) ⟨p3, _, _, _, rfl, s2.trans s3, s3 _ _ h2, [], h3, .nil⟩ ?_ ?_
      · rintro j σ H4 hj ⟨pf, o4, o5, o6, rfl, s4, h4r, h4p⟩
        have hj' : j < 64 := by omega
        walk_at "rd"
        refine ⟨by omega, by omega, comp_rp (fun i => (rg f l i, rg f l (i + 1))) ?_ ?_⟩
        · intro D i own H5 ts hD hi ho s5 h5 p5
          have hi' : i + 1 < (ringN f l).length := by rw [natV_len] at hi; omega
          obtain ⟨o, rfl⟩ : ∃ o, own = [o] := by
            match own, ho with
            | [o], _ => exact ⟨o, rfl⟩
          have x1 : atI (natV (ringN f l)) (0 + (i : Int)) = some (.int (rg f l i)) := atI_int (by omega) (natV_at (by rw [show ((0 : Int) + (i : Int)).toNat = i from by omega]; exact rg_at (by omega)))
          have x2 : atI (natV (ringN f l)) (0 + (i : Int) + 1) = some (.int (rg f l (i + 1))) := atI_int (by omega) (natV_at (by rw [show ((0 : Int) + (i : Int) + 1).toNat = i + 1 from by omega]; exact rg_at hi'))
          walk_at "rd"
          rename_i t6 H6 ht6 s6 h6
          exact yieldP [some (.int (0 + (i : Int)))] (by rw [natV_len]; omega) hi hD s5 h5 p5 (by walk_at "sm") h6 rfl rfl
        intro D5 H5 hD5 s5 h5
        rw [natV_len, show (((ringN f l).length : Int) - 1).toNat = (ringN f l).length - 1 from by omega] at h5
        walk_at "rd"
        have sn := stepsN_len (neg := decide (m < 0)) (ch := false) rl12 j
        refine ite2 (fun cc => ?_) (fun cc => ?_)
        · walk_at "rd"
          refine cat_pairs (K := K) (h4p.same s5) h5 (by rw [List.length_map, List.length_range]; omega) fun p7 H7 hp7 s7 h7 => ?_
          walk_at "rd"
          refine ⟨p7, _, _, _, rfl, s4.trans (s5.trans s7), s7 _ _ (s5 _ _ h4r), ?_⟩
          rw [stepsN_succ]
          unfold stepN
          rw [if_neg (by decide), if_pos cc]
          exact h7
        · obtain ⟨us, e5, q5⟩ := h5
          walk_at "rd"
          rename_i p6 H6 hp6 s6 h6
          have h6' : PairsR H6 p6 ((List.range ((ringN f l).length - 1)).map fun i => (rg f l i, rg f l (i + 1))).reverse := ⟨us.reverse, by rw [h6, List.map_reverse], pr_rev (pr_same s6 q5)⟩
          refine cat_pairs (K := K) (h4p.same (s5.trans s6)) h6' (by rw [List.length_reverse, List.length_map, List.length_range]; omega) fun p7 H7 hp7 s7 h7 => ?_
          walk_at "rd"
          refine ⟨p7, _, _, _, rfl, s4.trans (s5.trans (s6.trans s7)), s7 _ _ (s6 _ _ (s5 _ _ h4r)), ?_⟩
          rw [stepsN_succ]
          unfold stepN
          rw [if_neg (by decide), if_neg cc]
          exact h7
      · rintro σ H4 ⟨pf, o4, o5, o6, rfl, s4, h4r, h4p⟩
        walk_at "rd"
        exact k _ _ s4 h4p
    | chain fi la m =>
      simp only [Call.word, Call.nums, Call.Ok] at ha hok'
      obtain ⟨f, rfl⟩ := Int.eq_ofNat_of_zero_le hok'.1
      obtain ⟨l, rfl⟩ := Int.eq_ofNat_of_zero_le (show 0 ≤ la by omega)
      have hfl : f < l := by omega
      have rl := ringN_len (f := f) (l := l) hfl
      have rl12 : (ringN f l).length ≤ 12 := by omega
      have nl : (natV (ringN f l)).length = (ringN f l).length := natV_len
      have ab : (if m < 0 then -m else m).toNat = m.natAbs ∧ (if m < 0 then -m else m) ≤ 64 ∧ 0 ≤ (if m < 0 then -m else m) := by split <;> omega
      walk_at "rd"
      refine rd_lring hfl (by omega) fun pr H2 hpr s2 h2 => ?_
      walk_at "rd"
      rename_i p3 H3 hp3 s3 h3
      refine ⟨by omega, by omega, ?_⟩
      rw [ab.1]
      refine for_r (fun j σ H4 => ∃ pf o4 o5 o6, σ = [some (.ref a), some (.ref pr), some (.int ((natV (ringN f l)).length : Nat)), some (.ref pf), o4, o5, o6] ∧ Same H H4 ∧ H4 pr = some (.lst (natV (ringN f l))) ∧ PairsR H4 pf (stepsN f l (decide (m < 0)) true j)) ⟨p3, _, _, _, rfl, s2.trans s3, s3 _ _ h2, [], h3, .nil⟩ ?_ ?_
      · rintro j σ H4 hj ⟨pf, o4, o5, o6, rfl, s4, h4r, h4p⟩
        have hj' : j < 64 := by omega
        walk_at "rd"
        obtain ⟨bg, hbg⟩ : ∃ bg : Nat, (j + if decide (m < 0) = true then 1 else 0) % 2 = bg := ⟨_, rfl⟩
        have eb : ((0 : Int) + (j : Int) + (if decide (m < 0) = true then 1 else 0)) % 2 = (bg : Int) := by
          revert hbg
          split <;> omega
        have bg1 : bg < 2 := by omega
        rw [eb]
        refine ⟨_, _, _, rfl, by decide, by omega, by decide, small_two (by omega) (by omega) (by omega) (by omega), ?_⟩
        rw [show (Builtin.Range.rangeSize (bg : Int) ((natV (ringN f l)).length : Nat) 2).toNat = ((ringN f l).length - bg + 1) / 2 from by
          unfold Builtin.Range.rangeSize
          rw [if_pos (by decide), if_pos (by omega)]
          omega]
        refine comp_sp (fun i => (rg f l (bg + i * 2), rg f l ((bg + i * 2 + 1) % (ringN f l).length))) ?_ ?_
        · intro D i own H5 ts hD hi ho s5 h5 p5
          have hi' : bg + i * 2 < (ringN f l).length := by omega
          have hm' : (bg + i * 2 + 1) % (ringN f l).length < (ringN f l).length := Nat.mod_lt _ (by omega)
          obtain ⟨o, rfl⟩ : ∃ o, own = [o] := by
            match own, ho with
            | [o], _ => exact ⟨o, rfl⟩
          have x1 : atI (natV (ringN f l)) ((bg : Int) + (i : Int) * 2) = some (.int (rg f l (bg + i * 2))) := atI_int (by omega) (natV_at (by rw [show ((bg : Int) + (i : Int) * 2).toNat = bg + i * 2 from by omega]; exact rg_at hi'))
          have x2 : atI (natV (ringN f l)) (((bg : Int) + (i : Int) * 2 + 1) % (((natV (ringN f l)).length : Nat) : Int)) = some (.int (rg f l ((bg + i * 2 + 1) % (ringN f l).length))) := by
            have ec : ((bg : Int) + (i : Int) * 2 + 1) % (((natV (ringN f l)).length : Nat) : Int) = (((bg + i * 2 + 1) % (ringN f l).length : Nat) : Int) := by
              rw [nl, show ((bg : Int) + (i : Int) * 2 + 1) = ((bg + i * 2 + 1 : Nat) : Int) from by omega]
              rfl
            rw [ec]
            exact atI_nat (natV_at (rg_at hm'))
          walk_at "rd"
          rename_i t6 H6 ht6 s6 h6
          exact yieldP [some (.int ((bg : Int) + (i : Int) * 2))] (by omega) hi hD s5 h5 p5 (by walk_at "sm") h6 rfl rfl
        intro D5 H5 hD5 s5 h5
        have sn := stepsN_len (neg := decide (m < 0)) (ch := true) rl12 j
        walk_at "rd"
        refine cat_pairs (K := K) (h4p.same s5) h5 (by rw [List.length_map, List.length_range]; omega) fun p7 H7 hp7 s7 h7 => ?_
        walk_at "rd"
        refine ⟨p7, _, _, _, rfl, s4.trans (s5.trans s7), s7 _ _ (s5 _ _ h4r), ?_⟩
        rw [stepsN_succ]
        unfold stepN
        rw [if_pos rfl, hbg]
        exact h7
      · rintro σ H4 ⟨pf, o4, o5, o6, rfl, s4, h4r, h4p⟩
        walk_at "rd"
        exact k _ _ s4 h4p
end


def two (s : Nat) : List (Nat × Nat) := [(2 * s, 2 * s + 2), (2 * s + 1, 2 * s + 3)]
def Call.sw : Call → List (Nat × Nat)
  | .ring f l m => Call.rsw (.ring f l m)
  | .chain f l m => Call.rsw (.chain f l m)
  | .cross s => [(2 * s.toNat, 2 * s.toNat + 1)]
  | .pass s d => [(2 * s.toNat + d.toNat, 2 * s.toNat + 2 + d.toNat)]
  | .corner s d => [(2 * s.toNat + d.toNat, 2 * s.toNat + 3 - d.toNat)]
  | .cast f l => ((List.range (l.toNat - f.toNat)).map fun i => f.toNat + i).flatMap two
  | .lead f l => ((List.range (l.toNat - f.toNat)).map fun i => f.toNat + i).reverse.flatMap two
  | .stand _ => []
def spLSw : Sp := fun vs H Q _ => ∃ (n : Nat) (v : V) (c : Call), vs = [v] ∧ CallAt H v c ∧ spots n ∧ c.Ok n ∧ ∀ p H', Same H H' → PairsR H' p c.sw → Q (.ref p) H'
theorem rd_lsw {H : Hp} {Q : VK} {E : XK} {n : Nat} {v : V} {c : Call} (h : CallAt H v c) (h1 : spots n) (h2 : c.Ok n) (q : ∀ p H', Same H H' → PairsR H' p c.sw → Q (.ref p) H') : spLSw [v] H Q E := ⟨n, v, c, rfl, h, h1, h2, q⟩
theorem rangeV_nat (f n : Nat) : rangeV (f : Int) n = natV ((List.range n).map fun i => f + i) := by
  unfold rangeV natV
  rw [List.map_map]
  refine List.map_congr_left fun i _ => ?_
  show V.int _ = V.int _
  congr 1
theorem natV_rev {ns : List Nat} : (natV ns).reverse = natV ns.reverse := by unfold natV; rw [List.map_reverse]
theorem flat_len (qs : List Nat) : (qs.flatMap two).length = 2 * qs.length := by
  induction qs with
  | nil => rfl
  | cons q r ih => rw [List.flatMap_cons, List.length_append, ih, List.length_cons]; show 2 + _ = _; omega
section
variable {P : Program} {w : World} {K : PySem.W.Frag} {mg : Str → Option Value} {base : Heap}
theorem sc__law_swaps : FnScope ["_law_call_here", "_law_word", "_law_found", "_law_spots_here", "_law_spot"] ["_law_call_here"] (defScope s__law_swaps) := ⟨rfl, rfl, rfl, by decide +kernel, rfl, by decide +kernel, by decide +kernel⟩
theorem ok__law_swaps {f : Addr} {fd : FuncData} (F : Fun K "_law_swaps" "_law_swaps" s__law_swaps f fd) (T : Txt P w K mg)  (F__law_ring_swaps : FnAt P w K mg base "_law_ring_swaps" 2 spRSw) : FnOk P w K mg base CX0 (2 + 1) f fd ["_law_call_here"] spLSw := by
  refine F.ok sc__law_swaps (fun vs H Q E h => ?_) (fun cdv A outer s H vs Q E hr h => ?_)
  · obtain ⟨n, v, c, rfl, _⟩ := h
    rfl
  · obtain ⟨n, v, c, rfl, hca, hn, hok, k⟩ := h
    refine ⟨_, (pss_cons (ps_set (i := 1) sc__law_swaps.nd rfl (Or.inl rfl) (pe_ix ix_tup (pv 0) pe_int (fun _ _ => rfl)))
      (pss_cons (ps_if (pt_cmpR op_in_seq (pv 1) (pe_lst (pa_cons pe_str (pa_cons pe_str pa_nil))) rfl)
      (pss_one (ps_ret (pe_fn F__law_ring_swaps (hr.mono (by omega)) (pa_cons (pv 0) pa_nil))))
      pss_nil)
      (pss_cons (ps_if (pt_cmpR op_eq (pv 1) pe_str (nomark _))
      (pss_one (ps_ret (pe_lst (pa_cons (pe_tup (pa_cons (pe_op op_mul pe_int (pe_ix ix_tup (pv 0) pe_int (fun _ _ => rfl))) (pa_cons (pe_op op_add (pe_op op_mul pe_int (pe_ix ix_tup (pv 0) pe_int (fun _ _ => rfl))) pe_int) pa_nil))) pa_nil))))
      pss_nil)
      (pss_cons (ps_if (pt_cmpR op_eq (pv 1) pe_str (nomark _))
      (pss_one (ps_ret (pe_lst (pa_cons (pe_tup (pa_cons (pe_op op_add (pe_op op_mul pe_int (pe_ix ix_tup (pv 0) pe_int (fun _ _ => rfl))) (pe_ix ix_tup (pv 0) pe_int (fun _ _ => rfl))) (pa_cons (pe_op op_add (pe_op op_add (pe_op op_mul pe_int (pe_ix ix_tup (pv 0) pe_int (fun _ _ => rfl))) pe_int) (pe_ix ix_tup (pv 0) pe_int (fun _ _ => rfl))) pa_nil))) pa_nil))))
      pss_nil)
      (pss_cons (ps_if (pt_cmpR op_eq (pv 1) pe_str (nomark _))
      (pss_one (ps_ret (pe_lst (pa_cons (pe_tup (pa_cons (pe_op op_add (pe_op op_mul pe_int (pe_ix ix_tup (pv 0) pe_int (fun _ _ => rfl))) (pe_ix ix_tup (pv 0) pe_int (fun _ _ => rfl))) (pa_cons (pe_op op_sub (pe_op op_add (pe_op op_mul pe_int (pe_ix ix_tup (pv 0) pe_int (fun _ _ => rfl))) pe_int) (pe_ix ix_tup (pv 0) pe_int (fun _ _ => rfl))) pa_nil))) pa_nil))))
      pss_nil)
      (pss_cons (ps_set (i := 2) sc__law_swaps.nd rfl (Or.inl rfl) (pe_lst pa_nil))
      (pss_cons (ps_if (pt_cmpR op_in_seq (pv 1) (pe_lst (pa_cons pe_str (pa_cons pe_str pa_nil))) rfl)
      (pss_cons (ps_set (i := 3) sc__law_swaps.nd rfl (Or.inl rfl) (pe_callTy (cl_listR rfl) (by rfl) T.n_list bt_list (pa_cons (pe_callTy cl_rng (by rfl) T.n_range bt_range (pa_cons (pe_ix ix_tup (pv 0) pe_int (fun _ _ => rfl)) (pa_cons (pe_ix ix_tup (pv 0) pe_int (fun _ _ => rfl)) pa_nil))) pa_nil)))
      (pss_cons (ps_if (pt_cmpR op_eq (pv 1) pe_str (nomark _))
      (pss_one (ps_set (i := 3) sc__law_swaps.nd rfl (Or.inl rfl) (pe_rev (pv 3))))
      pss_nil)
      (pss_one (ps_for PassesOwn.never rfl (pi_list (pv 3)) (pg_name (i := 4) sc__law_swaps.nd rfl (Or.inl rfl))
      (pss_one (ps_set (i := 2) sc__law_swaps.nd rfl (Or.inl rfl) (pe_op op_cat (pv 2) (pe_lst (pa_cons (pe_tup (pa_cons (pe_op op_mul pe_int (pv 4)) (pa_cons (pe_op op_add (pe_op op_mul pe_int (pv 4)) pe_int) pa_nil))) (pa_cons (pe_tup (pa_cons (pe_op op_add (pe_op op_mul pe_int (pv 4)) pe_int) (pa_cons (pe_op op_add (pe_op op_mul pe_int (pv 4)) pe_int) pa_nil))) pa_nil))))))))))
      pss_nil)
      (pss_one (ps_ret (pv 2)))))))))), ?_⟩
    obtain ⟨n1, n2⟩ := id hn
    obtain ⟨a, rfl, ha⟩ := id hca
    have hok' := hok
    cases c with
    | ring fi la m =>
      simp only [Call.word, Call.nums, Call.Ok] at ha hok'
      walk_at "rd"
      refine rd_rsw (c := .ring fi la m) (by walk_at "ca") hn hok rfl fun p H2 s2 h2 => ?_
      exact k _ _ (by walk_at "sm") h2
    | chain fi la m =>
      simp only [Call.word, Call.nums, Call.Ok] at ha hok'
      walk_at "rd"
      refine rd_rsw (c := .chain fi la m) (by walk_at "ca") hn hok rfl fun p H2 s2 h2 => ?_
      exact k _ _ (by walk_at "sm") h2
    | cross sp =>
      simp only [Call.word, Call.nums, Call.Ok] at ha hok'
      obtain ⟨s, rfl⟩ := Int.eq_ofNat_of_zero_le hok'.1
      walk_at "rd"
      rename_i t5 H5 ht5 s5 h5 t7 H7 ht7 s7 h7
      refine k _ _ (by walk_at "sm") ⟨[t5], h7, .cons (s7 _ _ ?_) .nil⟩
      rw [h5]
      show _ = some (HO.tup [V.int ((2 * s : Nat) : Int), V.int ((2 * s + 1 : Nat) : Int)])
      rw [show ((2 * s : Nat) : Int) = 2 * (s : Int) from by omega, show ((2 * s + 1 : Nat) : Int) = 2 * (s : Int) + 1 from by omega]
    | pass sp d =>
      simp only [Call.word, Call.nums, Call.Ok] at ha hok'
      obtain ⟨s, rfl⟩ := Int.eq_ofNat_of_zero_le hok'.1
      obtain ⟨e, rfl⟩ := Int.eq_ofNat_of_zero_le (show 0 ≤ d by omega)
      walk_at "rd"
      rename_i t5 H5 ht5 s5 h5 t7 H7 ht7 s7 h7
      refine k _ _ (by walk_at "sm") ⟨[t5], h7, .cons (s7 _ _ ?_) .nil⟩
      rw [h5]
      show _ = some (HO.tup [V.int ((2 * s + e : Nat) : Int), V.int ((2 * s + 2 + e : Nat) : Int)])
      rw [show ((2 * s + e : Nat) : Int) = 2 * (s : Int) + (e : Int) from by omega, show ((2 * s + 2 + e : Nat) : Int) = 2 * (s : Int) + 2 + (e : Int) from by omega]
    | corner sp d =>
      simp only [Call.word, Call.nums, Call.Ok] at ha hok'
      obtain ⟨s, rfl⟩ := Int.eq_ofNat_of_zero_le hok'.1
      obtain ⟨e, rfl⟩ := Int.eq_ofNat_of_zero_le (show 0 ≤ d by omega)
      walk_at "rd"
      rename_i t5 H5 ht5 s5 h5 t7 H7 ht7 s7 h7
      refine k _ _ (by walk_at "sm") ⟨[t5], h7, .cons (s7 _ _ ?_) .nil⟩
      rw [h5]
      show _ = some (HO.tup [V.int ((2 * s + e : Nat) : Int), V.int ((2 * s + 3 - e : Nat) : Int)])
      rw [show ((2 * s + e : Nat) : Int) = 2 * (s : Int) + (e : Int) from by omega, show ((2 * s + 3 - e : Nat) : Int) = 2 * (s : Int) + 3 - (e : Int) from by omega]
    | cast fi la =>
      simp only [Call.word, Call.nums, Call.Ok] at ha hok'
      obtain ⟨f, rfl⟩ := Int.eq_ofNat_of_zero_le hok'.1
      obtain ⟨l, rfl⟩ := Int.eq_ofNat_of_zero_le (show 0 ≤ la by omega)
      walk_at "rd"
      rename_i p1 H1 hp1 s1 e1 pf0 H2 hp2 s2 e2 p3 H3 hp3 s3 e3 pr H4 hp4 s4 e4 ps H5 hp5 s5 hps
      rw [show ((l : Int) - (f : Int)).toNat = l - f from by omega, rangeV_nat] at hps
      obtain ⟨qs, hqs⟩ : ∃ qs, ((List.range (l - f)).map fun i => f + i) = qs := ⟨_, rfl⟩
      rw [hqs] at hps
      have lq : qs.length ≤ 6 := by rw [← hqs]; simp; omega
      refine ⟨_, rfl, ⟨_, SqL.of hps⟩, for_l (xs := natV qs) (fun i σ H4 => ∃ pf o4, σ = [some (.ref a), some (.str "cast"), some (.ref pf), some (.ref ps), o4] ∧ Same H H4 ∧ H4 ps = some (.lst (natV qs)) ∧ PairsR H4 pf ((qs.take i).flatMap two)) ⟨pf0, _, rfl, by walk_at "sm", hps, [], by walk_at "hp", .nil⟩ (fun i σ H4 _ ⟨_, _, _, _, z, _⟩ => SqL.of z) ?_ ?_⟩
      · rintro i x σ H4 hx ⟨pf, o4, rfl, s4, h4s, h4p⟩
        have hi : i < qs.length := by have := (List.getElem?_eq_some_iff.mp hx).1; rw [natV_len] at this; exact this
        obtain ⟨q, hq⟩ : ∃ q, qs[i]? = some q := ⟨qs[i], List.getElem?_eq_getElem hi⟩
        rw [natV_at hq] at hx
        cases hx
        walk_at "rd"
        rename_i t5 H5 ht5 s5 h5 t6 H6 ht6 s6 h6 t7 H7 ht7 s7 h7
        have h7' : PairsR H7 t7 (two q) := ⟨[t5, t6], h7, .cons (s7 _ _ (s6 _ _ (by show H5 t5 = _; rw [h5]; rfl))) (.cons (s7 _ _ (by show H6 t6 = _; rw [h6]; rfl)) .nil)⟩
        refine cat_pairs (K := K) (h4p.same (s5.trans (s6.trans s7))) h7' (by rw [flat_len, List.length_take]; show _ + 2 ≤ 1000; omega) fun p8 H8 hp8 s8 h8 => ?_
        walk_at "rd"
        refine ⟨p8, _, rfl, s4.trans (s5.trans (s6.trans (s7.trans s8))), s8 _ _ (s7 _ _ (s6 _ _ (s5 _ _ h4s))), ?_⟩
        rw [List.take_succ, hq, List.flatMap_append]
        simpa using h8
      · rintro σ H4 ⟨pf, o4, rfl, s4, h4s, h4p⟩
        walk_at "rd"
        rw [natV_len, List.take_length] at h4p
        rw [← hqs] at h4p
        exact k _ _ s4 h4p
    | lead fi la =>
      simp only [Call.word, Call.nums, Call.Ok] at ha hok'
      obtain ⟨f, rfl⟩ := Int.eq_ofNat_of_zero_le hok'.1
      obtain ⟨l, rfl⟩ := Int.eq_ofNat_of_zero_le (show 0 ≤ la by omega)
      walk_at "rd"
      rename_i p1 H1 hp1 s1 e1 pf0 H2 hp2 s2 e2 p3 H3 hp3 s3 e3 pr H4 hp4 s4 e4 pq H5 hp5 s5 e5 ps H6 hp6 s6 hps
      rw [show ((l : Int) - (f : Int)).toNat = l - f from by omega, rangeV_nat, natV_rev] at hps
      obtain ⟨qs, hqs⟩ : ∃ qs, ((List.range (l - f)).map fun i => f + i).reverse = qs := ⟨_, rfl⟩
      rw [hqs] at hps
      have lq : qs.length ≤ 6 := by rw [← hqs]; simp; omega
      refine ⟨_, rfl, ⟨_, SqL.of hps⟩, for_l (xs := natV qs) (fun i σ H4 => ∃ pf o4, σ = [some (.ref a), some (.str "lead"), some (.ref pf), some (.ref ps), o4] ∧ Same H H4 ∧ H4 ps = some (.lst (natV qs)) ∧ PairsR H4 pf ((qs.take i).flatMap two)) ⟨pf0, _, rfl, by walk_at "sm", hps, [], by walk_at "hp", .nil⟩ (fun i σ H4 _ ⟨_, _, _, _, z, _⟩ => SqL.of z) ?_ ?_⟩
      · rintro i x σ H4 hx ⟨pf, o4, rfl, s4, h4s, h4p⟩
        have hi : i < qs.length := by have := (List.getElem?_eq_some_iff.mp hx).1; rw [natV_len] at this; exact this
        obtain ⟨q, hq⟩ : ∃ q, qs[i]? = some q := ⟨qs[i], List.getElem?_eq_getElem hi⟩
        rw [natV_at hq] at hx
        cases hx
        walk_at "rd"
        rename_i t5 H5 ht5 s5 h5 t6 H6 ht6 s6 h6 t7 H7 ht7 s7 h7
        have h7' : PairsR H7 t7 (two q) := ⟨[t5, t6], h7, .cons (s7 _ _ (s6 _ _ (by show H5 t5 = _; rw [h5]; rfl))) (.cons (s7 _ _ (by show H6 t6 = _; rw [h6]; rfl)) .nil)⟩
        refine cat_pairs (K := K) (h4p.same (s5.trans (s6.trans s7))) h7' (by rw [flat_len, List.length_take]; show _ + 2 ≤ 1000; omega) fun p8 H8 hp8 s8 h8 => ?_
        walk_at "rd"
        refine ⟨p8, _, rfl, s4.trans (s5.trans (s6.trans (s7.trans s8))), s8 _ _ (s7 _ _ (s6 _ _ (s5 _ _ h4s))), ?_⟩
        rw [List.take_succ, hq, List.flatMap_append]
        simpa using h8
      · rintro σ H4 ⟨pf, o4, rfl, s4, h4s, h4p⟩
        walk_at "rd"
        rw [natV_len, List.take_length] at h4p
        rw [← hqs] at h4p
        exact k _ _ s4 h4p
    | stand m =>
      simp only [Call.word, Call.nums, Call.Ok] at ha hok'
      walk_at "rd"
      exact k _ _ (by walk_at "sm") ⟨[], by walk_at "hp", .nil⟩
end


def swapN (r : List Nat) (q : Nat × Nat) : List Nat := (r.set q.1 (r.getD q.2 0)).set q.2 (r.getD q.1 0)
def walkN (r : List Nat) (cs : List Call) : List Nat := cs.foldl (fun r c => c.sw.foldl swapN r) r
theorem swapN_len {r : List Nat} {q : Nat × Nat} : (swapN r q).length = r.length := by unfold swapN; rw [List.length_set, List.length_set]
theorem swaps_len : ∀ (sw : List (Nat × Nat)) (r : List Nat), (sw.foldl swapN r).length = r.length
  | [], _ => rfl
  | q :: sw, r => by rw [List.foldl_cons, swaps_len sw, swapN_len]
theorem walkN_len : ∀ (cs : List Call) (r : List Nat), (walkN r cs).length = r.length
  | [], _ => rfl
  | c :: cs, r => by
    have := walkN_len cs (c.sw.foldl swapN r)
    unfold walkN at this ⊢
    rw [List.foldl_cons, this, swaps_len]
theorem rg_lt {n f l i : Nat} (h1 : f < l) (h2 : l < n) : rg f l i < 2 * n := by
  by_cases c : i < (ringN f l).length
  · exact ringN_lt h1 h2 (List.mem_of_getElem? (rg_at c))
  · unfold rg
    rw [List.getD_eq_getElem?_getD, List.getElem?_eq_none (by omega)]
    show 0 < 2 * n
    omega
theorem steps_lt {n f l j : Nat} {neg ch : Bool} (h1 : f < l) (h2 : l < n) {q : Nat × Nat} (hq : q ∈ stepsN f l neg ch j) : q.1 < 2 * n ∧ q.2 < 2 * n := by
  unfold stepsN at hq
  obtain ⟨t, _, ht⟩ := List.mem_flatMap.mp hq
  unfold stepN at ht
  have key : ∀ {x : Nat → Nat × Nat} {m : Nat}, (∀ i, (x i).1 < 2 * n ∧ (x i).2 < 2 * n) → q ∈ (List.range m).map x → q.1 < 2 * n ∧ q.2 < 2 * n := fun hx hm => by
    obtain ⟨i, _, rfl⟩ := List.mem_map.mp hm
    exact hx i
  by_cases c1 : ch = true
  · rw [if_pos c1] at ht
    exact key (fun i => ⟨rg_lt h1 h2, rg_lt h1 h2⟩) ht
  · rw [if_neg c1] at ht
    by_cases c2 : neg = true
    · rw [if_pos c2] at ht
      exact key (fun i => ⟨rg_lt h1 h2, rg_lt h1 h2⟩) ht
    · rw [if_neg c2, List.mem_reverse] at ht
      exact key (fun i => ⟨rg_lt h1 h2, rg_lt h1 h2⟩) ht
theorem two_lt {n : Nat} {qs : List Nat} (h : ∀ s ∈ qs, s + 1 < n) {q : Nat × Nat} (hq : q ∈ qs.flatMap two) : q.1 < 2 * n ∧ q.2 < 2 * n := by
  obtain ⟨s, hs, ht⟩ := List.mem_flatMap.mp hq
  have := h s hs
  unfold two at ht
  simp only [List.mem_cons, List.not_mem_nil, or_false] at ht
  rcases ht with rfl | rfl <;> (dsimp only; omega)
theorem sw_lt {n : Nat} {c : Call} (hn : spots n) (h : c.Ok n) {q : Nat × Nat} (hq : q ∈ c.sw) : q.1 < 2 * n ∧ q.2 < 2 * n := by
  obtain ⟨n1, n2⟩ := hn
  cases c with
  | ring f l m => simp only [Call.Ok] at h; exact steps_lt (by omega) (by omega) hq
  | chain f l m => simp only [Call.Ok] at h; exact steps_lt (by omega) (by omega) hq
  | cross s => simp only [Call.Ok] at h; simp only [Call.sw, List.mem_cons, List.not_mem_nil, or_false] at hq; subst hq; dsimp only; omega
  | pass s d => simp only [Call.Ok] at h; simp only [Call.sw, List.mem_cons, List.not_mem_nil, or_false] at hq; subst hq; dsimp only; omega
  | corner s d => simp only [Call.Ok] at h; simp only [Call.sw, List.mem_cons, List.not_mem_nil, or_false] at hq; subst hq; dsimp only; omega
  | cast f l =>
    simp only [Call.Ok] at h
    exact two_lt (fun s hs => by obtain ⟨i, hi, rfl⟩ := List.mem_map.mp hs; have := List.mem_range.mp hi; omega) hq
  | lead f l =>
    simp only [Call.Ok] at h
    exact two_lt (fun s hs => by obtain ⟨i, hi, rfl⟩ := List.mem_map.mp (List.mem_reverse.mp hs); have := List.mem_range.mp hi; omega) hq
  | stand m => simp [Call.sw] at hq
def CallOk (n : Nat) (H : Hp) (v : V) (c : Call) : Prop := CallAt H v c ∧ c.Ok n
section
variable {P : Program} {w : World} {K : PySem.W.Frag} {mg : Str → Option Value} {base : Heap}
end


def ix : List Nat → Nat → Nat
  | [], _ => 0
  | x :: t, z => if x = z then 0 else ix t z + 1
theorem ix_at : ∀ {r : List Nat} {z : Nat}, z ∈ r → r[ix r z]? = some z ∧ ∀ m, m < ix r z → r[m]? ≠ some z
  | x :: t, z, h => by
    unfold ix
    by_cases c : x = z
    · rw [if_pos c]; exact ⟨by rw [c]; rfl, fun m hm => absurd hm (Nat.not_lt_zero _)⟩
    · rw [if_neg c]
      have hz : z ∈ t := by
        rcases List.mem_cons.mp h with e | e
        · exact absurd e.symm c
        · exact e
      obtain ⟨h1, h2⟩ := ix_at hz
      refine ⟨by simpa using h1, fun m hm => ?_⟩
      cases m with
      | zero => simpa using c
      | succ m => simpa using h2 m (by omega)
def wayL (n : Nat) (cs : List Call) : List Nat := (List.range (2 * n)).map fun z => ix (walkN (stillN n) cs) z
theorem paired_ok {n : Nat} {H : Hp} : ∀ {xs : List V} {cs : List Call}, Paired (CallOk n H) xs cs → ∀ c ∈ cs, c.Ok n
  | _, _, .nil, c, h => by simp at h
  | _, _, .cons r t, c, h => by
    rcases List.mem_cons.mp h with e | e
    · rw [e]; exact r.2
    · exact paired_ok t c e
section
variable {P : Program} {w : World} {K : PySem.W.Frag} {mg : Str → Option Value} {base : Heap}
end


def wl (n : Nat) (sw : List (Nat × Nat)) : List Nat := (List.range (2 * n)).map fun z => ix (sw.foldl swapN (stillN n)) z
theorem chk_x : ((List.range 7).all fun n => (List.range n).all fun s => exchN n (2 * s) (2 * s + 1) == wl n [(2 * s, 2 * s + 1)]) = true := by decide +kernel
theorem chk_p : ((List.range 7).all fun n => (List.range (n - 1)).all fun s => (List.range 2).all fun e => exchN n (2 * s + e) (2 * s + 2 + e) == wl n [(2 * s + e, 2 * s + 2 + e)] && exchN n (2 * s + e) (2 * s + 3 - e) == wl n [(2 * s + e, 2 * s + 3 - e)]) = true := by decide +kernel
theorem chk_c : ((List.range 7).all fun n => (List.range n).all fun l => (List.range l).all fun f => castN n f l == wl n (((List.range (l - f)).map fun i => f + i).flatMap two) && undoN n (castN n f l) (castN n f l).length == wl n (((List.range (l - f)).map fun i => f + i).reverse.flatMap two)) = true := by decide +kernel
theorem chk_s : ((List.range 7).all fun n => stillN n == wl n []) = true := by decide +kernel
def st (n f l : Nat) (neg ch : Bool) (k : Nat) : List Nat := (stepsN f l neg ch k).foldl swapN (stillN n)
theorem chk_0 : ((List.range 7).all fun n => (List.range n).all fun l => (List.range l).all fun f => [true, false].all fun neg => [true, false].all fun ch => st n f l neg ch (2 * (l - f + 1)) == stillN n) = true := by decide +kernel
theorem chk_k : ((List.range 7).all fun n => (List.range n).all fun l => (List.range l).all fun f => [true, false].all fun neg => [true, false].all fun ch => (List.range (2 * (l - f + 1))).all fun k => roundN n f l (if neg = true then -(k : Int) else k) ch (ringN f l).length == (List.range (2 * n)).map fun z => ix (st n f l neg ch k) z) = true := by decide +kernel


theorem rd_beats {H : Hp} {Q : VK} {E : XK} {n : Int} {v : V} {c : Call} (h : CallAt H v c) (h1 : spots n) (h2 : c.Ok n) (q : ∀ H', Same H H' → Q (.int c.beats) H') : spBeats [.int n, v] H Q E := ⟨n, v, c, rfl, h, h1, h2, q⟩
theorem rd_taken {H : Hp} {Q : VK} {E : XK} {n : Int} {v : V} {c : Call} (h : CallAt H v c) (h1 : spots n) (h2 : c.Ok n) (q : ∀ p H', H p = none → Same H H' → H' p = some (.lst c.takes) → Q (.ref p) H') : spTaken [.int n, v] H Q E := ⟨n, v, c, rfl, h, h1, h2, q⟩
def Call.tkI : Call → List Int
  | .ring f l _ => (List.range (2 * l + 2 - 2 * f).toNat).map fun (i : Nat) => 2 * f + (i : Int)
  | .chain f l _ => (List.range (2 * l + 2 - 2 * f).toNat).map fun (i : Nat) => 2 * f + (i : Int)
  | .cast f l => (List.range (2 * l + 2 - 2 * f).toNat).map fun (i : Nat) => 2 * f + (i : Int)
  | .lead f l => (List.range (2 * l + 2 - 2 * f).toNat).map fun (i : Nat) => 2 * f + (i : Int)
  | .cross s => [2 * s, 2 * s + 1]
  | .pass s d => [2 * s + d, 2 * s + 2 + d]
  | .corner s d => [2 * s + d, 2 * s + 3 - d]
  | .stand _ => []
theorem rangeV_ints (lo : Int) (n : Nat) : rangeV lo n = ((List.range n).map fun (i : Nat) => lo + (i : Int)).map V.int := by unfold rangeV; rw [List.map_map]; rfl
theorem takes_eq {c : Call} : c.takes = c.tkI.map V.int := by
  cases c with
  | ring f l m => exact rangeV_ints _ _
  | chain f l m => exact rangeV_ints _ _
  | cast f l => exact rangeV_ints _ _
  | lead f l => exact rangeV_ints _ _
  | _ => rfl
theorem tk_len {c : Call} {n : Int} (hn : spots n) (h : c.Ok n) : c.tkI.length ≤ 12 := by
  obtain ⟨n1, n2⟩ := hn
  cases c with
  | ring f l m => simp only [Call.Ok] at h; simp only [Call.tkI]; rw [List.length_map, List.length_range]; omega
  | chain f l m => simp only [Call.Ok] at h; simp only [Call.tkI]; rw [List.length_map, List.length_range]; omega
  | cast f l => simp only [Call.Ok] at h; simp only [Call.tkI]; rw [List.length_map, List.length_range]; omega
  | lead f l => simp only [Call.Ok] at h; simp only [Call.tkI]; rw [List.length_map, List.length_range]; omega
  | cross s => show 2 ≤ 12; decide
  | pass s d => show 2 ≤ 12; decide
  | corner s d => show 2 ≤ 12; decide
  | stand m => show 0 ≤ 12; decide
theorem nd_rng (f : Int) (n : Nat) : ((List.range n).map fun (i : Nat) => 2 * f + (i : Int)).Nodup := by
  unfold List.Nodup
  rw [List.pairwise_map]
  exact List.Pairwise.imp (fun h => by omega) (List.pairwise_lt_range (n := n))
theorem tk_nd {c : Call} {n : Int} (h : c.Ok n) : c.tkI.Nodup := by
  cases c with
  | ring f l m => exact nd_rng _ _
  | chain f l m => exact nd_rng _ _
  | cast f l => exact nd_rng _ _
  | lead f l => exact nd_rng _ _
  | cross s => simp only [Call.tkI]; simp; omega
  | pass s d => simp only [Call.tkI]; simp; omega
  | corner s d => simp only [Call.Ok] at h; simp only [Call.tkI]; simp; omega
  | stand m => exact List.nodup_nil
structure BarOk (n : Int) (cs : List Call) : Prop where
  one : cs ≠ []
  four : cs.length ≤ 4
  ok : ∀ c ∈ cs, c.Ok n
  apart : cs.Pairwise fun a b => ∀ z ∈ a.tkI, ∀ y ∈ b.tkI, z ≠ y
theorem bar_nd {n : Int} {cs : List Call} (h : BarOk n cs) : (cs.flatMap Call.tkI).Nodup := List.pairwise_flatMap.mpr ⟨fun c hc => tk_nd (h.ok c hc), h.apart⟩
theorem bar_len {n : Int} {cs : List Call} (hn : spots n) (h : ∀ c ∈ cs, c.Ok n) : (cs.flatMap Call.tkI).length ≤ 12 * cs.length := by
  induction cs with
  | nil => simp
  | cons c r ih =>
    rw [List.flatMap_cons, List.length_append, List.length_cons]
    have := tk_len hn (h c (by simp))
    have := ih fun d hd => h d (by simp [hd])
    omega
def Calls (n : Nat) (H : Hp) (a : Addr) (cs : List Call) : Prop := ∃ xs, H a = some (.lst xs) ∧ Paired (CallOk n H) xs cs
theorem callOk_mono {n : Nat} {H H' : Hp} (s : Same H H') {xs : List V} {cs : List Call} (h : Paired (CallOk n H) xs cs) : Paired (CallOk n H') xs cs := Paired.mapP h fun v c e => ⟨e.1.same s, e.2⟩
theorem Calls.same {n : Nat} {H H' : Hp} {a : Addr} {cs : List Call} (h : Calls n H a cs) (s : Same H H') : Calls n H' a cs := by
  obtain ⟨xs, e, p⟩ := h; exact ⟨xs, s _ _ e, callOk_mono s p⟩
theorem callStab (n : Nat) : Stab (CallOk n) where
  mono := fun s h => ⟨h.1.same s, h.2⟩
  rf := fun h => by obtain ⟨⟨a, e, _⟩, _⟩ := h; exact ⟨a, e⟩
  wr := fun _ hD h => by
    obtain ⟨⟨a, e, ha⟩, ok⟩ := h
    refine ⟨⟨a, e, ?_⟩, ok⟩
    rw [upd_ne (fun z => by rw [z, hD] at ha; cases ha)]; exact ha
def spLookBar : Sp := fun vs H Q _ => ∃ (n : Nat) (a : Addr) (cs : List Call), vs = [.int n, .ref a] ∧ spots n ∧ Calls n H a cs ∧ BarOk n cs ∧ ∀ H', Same H H' → Q .non H'
theorem rd_lookbar {H : Hp} {Q : VK} {E : XK} {n : Nat} {a : Addr} {cs : List Call} (hn : spots n) (h : Calls n H a cs) (hb : BarOk n cs) (q : ∀ H', Same H H' → Q .non H') : spLookBar [.int n, .ref a] H Q E := ⟨n, a, cs, rfl, hn, h, hb, q⟩
local macro_rules | `(tactic| walk_at "rd1") => `(tactic| first | with_reducible refine i_forZ ?_ | with_reducible refine i_comp2L ?_)
section
variable {P : Program} {w : World} {K : PySem.W.Frag} {mg : Str → Option Value} {base : Heap}
theorem sc_taken : FnScope ["spots", "call", "word"] ["spots", "call"] (defScope s_taken) := ⟨rfl, rfl, rfl, by decide +kernel, rfl, by decide +kernel, by decide +kernel⟩
theorem ok_taken {f : Addr} {fd : FuncData} (F : Fun K "taken" "taken" s_taken f fd) (T : Txt P w K mg)  (F_look_call : FnAt P w K mg base "look_call" 3 spCall) (F_exchange_places : FnAt P w K mg base "exchange_places" 1 spExch) : FnOk P w K mg base CX0 (3 + 1) f fd ["spots", "call"] spTaken := by
  refine F.ok sc_taken (fun vs H Q E h => ?_) (fun cdv A outer s H vs Q E hr h => ?_)
  · obtain ⟨n, v, c, rfl, _⟩ := h
    rfl
  · obtain ⟨n, v, c, rfl, hca, hns, hok, k⟩ := h
    refine ⟨_, (pss_cons (ps_expr (pe_fn F_look_call (hr.mono (by omega)) (pa_cons (pv 0) (pa_cons (pv 1) pa_nil))))
      (pss_cons (ps_set (i := 2) sc_taken.nd rfl (Or.inl rfl) (pe_ix ix_tup (pv 1) pe_int (fun _ _ => rfl)))
      (pss_cons (ps_if (pt_cmpR op_eq (pv 2) pe_str (nomark _))
      (pss_one (ps_ret (pe_lst pa_nil)))
      pss_nil)
      (pss_cons (ps_if (pt_cmpR op_in_seq (pv 2) (pe_tup (pa_cons pe_str (pa_cons pe_str (pa_cons pe_str pa_nil)))) rfl)
      (pss_one (ps_ret (pe_fn F_exchange_places (hr.mono (by omega)) (pa_cons (pv 1) pa_nil))))
      pss_nil)
      (pss_one (ps_ret (pe_callTy (cl_listR rfl) (by rfl) T.n_list bt_list (pa_cons (pe_callTy cl_rng (by rfl) T.n_range bt_range (pa_cons (pe_op op_mul pe_int (pe_ix ix_tup (pv 1) pe_int (fun _ _ => rfl))) (pa_cons (pe_op op_add (pe_op op_mul pe_int (pe_ix ix_tup (pv 1) pe_int (fun _ _ => rfl))) pe_int) pa_nil))) pa_nil)))))))), ?_⟩
    obtain ⟨a, rfl, ha⟩ := id hca
    have hc := hok
    obtain ⟨n1, n2⟩ := id hns
    cases c with
    | ring fi la m =>
      simp only [Call.word, Call.nums, Call.Ok] at ha hc
      walk_at "rd"
      exact k _ _ (by walk_at "fr") (by walk_at "sm") (by assumption)
    | chain fi la m =>
      simp only [Call.word, Call.nums, Call.Ok] at ha hc
      walk_at "rd"
      exact k _ _ (by walk_at "fr") (by walk_at "sm") (by assumption)
    | cross sp =>
      simp only [Call.word, Call.nums, Call.Ok] at ha hc
      walk_at "rd"
      exact k _ _ (by walk_at "fr") (by walk_at "sm") (by assumption)
    | pass sp d =>
      simp only [Call.word, Call.nums, Call.Ok] at ha hc
      walk_at "rd"
      exact k _ _ (by walk_at "fr") (by walk_at "sm") (by assumption)
    | corner sp d =>
      simp only [Call.word, Call.nums, Call.Ok] at ha hc
      walk_at "rd"
      exact k _ _ (by walk_at "fr") (by walk_at "sm") (by assumption)
    | cast fi la =>
      simp only [Call.word, Call.nums, Call.Ok] at ha hc
      walk_at "rd"
      exact k _ _ (by walk_at "fr") (by walk_at "sm") (by assumption)
    | lead fi la =>
      simp only [Call.word, Call.nums, Call.Ok] at ha hc
      walk_at "rd"
      exact k _ _ (by walk_at "fr") (by walk_at "sm") (by assumption)
    | stand m =>
      simp only [Call.word, Call.nums, Call.Ok] at ha hc
      walk_at "rd"
      exact k _ _ (by walk_at "fr") (by walk_at "sm") (by assumption)
theorem sc_beats : FnScope ["spots", "call", "word"] ["spots", "call"] (defScope s_beats) := ⟨rfl, rfl, rfl, by decide +kernel, rfl, by decide +kernel, by decide +kernel⟩
theorem ok_beats {f : Addr} {fd : FuncData} (F : Fun K "beats" "beats" s_beats f fd) (T : Txt P w K mg)  (F_look_call : FnAt P w K mg base "look_call" 3 spCall) : FnOk P w K mg base CX0 (3 + 1) f fd ["spots", "call"] spBeats := by
  refine F.ok sc_beats (fun vs H Q E h => ?_) (fun cdv A outer s H vs Q E hr h => ?_)
  · obtain ⟨n, v, c, rfl, _⟩ := h
    rfl
  · obtain ⟨n, v, c, rfl, hca, hns, hok, k⟩ := h
    refine ⟨_, (pss_cons (ps_expr (pe_fn F_look_call (hr.mono (by omega)) (pa_cons (pv 0) (pa_cons (pv 1) pa_nil))))
      (pss_cons (ps_set (i := 2) sc_beats.nd rfl (Or.inl rfl) (pe_ix ix_tup (pv 1) pe_int (fun _ _ => rfl)))
      (pss_cons (ps_if (pt_cmpR op_eq (pv 2) pe_str (nomark _))
      (pss_one (ps_ret (pe_ix ix_tup (pv 1) pe_int (fun _ _ => rfl))))
      pss_nil)
      (pss_cons (ps_if (pt_cmpR op_in_seq (pv 2) (pe_tup (pa_cons pe_str (pa_cons pe_str pa_nil))) rfl)
      (pss_one (ps_ret (pe_op op_mul pe_int (pe_callB call_abs (by rfl) T.n_abs bt_abs (pa_cons (pe_ix ix_tup (pv 1) pe_int (fun _ _ => rfl)) pa_nil)))))
      pss_nil)
      (pss_cons (ps_if (pt_cmpR op_in_seq (pv 2) (pe_tup (pa_cons pe_str (pa_cons pe_str pa_nil))) rfl)
      (pss_one (ps_ret (pe_op op_mul pe_int (pe_op op_sub (pe_ix ix_tup (pv 1) pe_int (fun _ _ => rfl)) (pe_ix ix_tup (pv 1) pe_int (fun _ _ => rfl))))))
      pss_nil)
      (pss_one (ps_ret (pe_ifExp (pt_cmpR op_eq (pv 2) pe_str (nomark _)) pe_int pe_int)))))))), ?_⟩
    obtain ⟨a, rfl, ha⟩ := id hca
    have hc := hok
    obtain ⟨n1, n2⟩ := id hns
    cases c with
    | ring fi la m =>
      simp only [Call.word, Call.nums, Call.Ok] at ha hc
      walk_at "rd"
      first | exact k _ (by walk_at "sm")
    | chain fi la m =>
      simp only [Call.word, Call.nums, Call.Ok] at ha hc
      walk_at "rd"
      first | exact k _ (by walk_at "sm")
    | cross sp =>
      simp only [Call.word, Call.nums, Call.Ok] at ha hc
      walk_at "rd"
      first | exact k _ (by walk_at "sm")
    | pass sp d =>
      simp only [Call.word, Call.nums, Call.Ok] at ha hc
      walk_at "rd"
      first | exact k _ (by walk_at "sm")
    | corner sp d =>
      simp only [Call.word, Call.nums, Call.Ok] at ha hc
      walk_at "rd"
      first | exact k _ (by walk_at "sm")
    | cast fi la =>
      simp only [Call.word, Call.nums, Call.Ok] at ha hc
      walk_at "rd"
      first | exact k _ (by walk_at "sm")
    | lead fi la =>
      simp only [Call.word, Call.nums, Call.Ok] at ha hc
      walk_at "rd"
      first | exact k _ (by walk_at "sm")
    | stand m =>
      simp only [Call.word, Call.nums, Call.Ok] at ha hc
      walk_at "rd"
      first | exact k _ (by walk_at "sm")
end


theorem flat_ix (cs : List Call) : (List.range cs.length).flatMap (fun i => ((cs[i]?).map Call.takes).getD []) = (cs.flatMap Call.tkI).map V.int := by
  have key : ∀ (n : Nat), n ≤ cs.length → (List.range n).flatMap (fun i => ((cs[i]?).map Call.takes).getD []) = ((cs.take n).flatMap Call.tkI).map V.int := by
    intro n
    induction n with
    | zero => intro _; simp
    | succ n ih =>
      intro h
      rw [List.range_succ, List.flatMap_append, ih (by omega), List.take_succ, List.flatMap_append, List.map_append, List.getElem?_eq_getElem (by omega : n < cs.length)]
      simp only [List.flatMap_cons, List.flatMap_nil, List.append_nil, Option.toList_some]
      rw [List.getElem?_eq_getElem (by omega : n < cs.length)]
      show _ ++ Call.takes _ = _
      rw [takes_eq]
  have := key cs.length (Nat.le_refl _)
  rwa [List.take_length] at this
theorem cut_from1 (ns : List Int) : cutV (ns.map V.int) (some 1) none = (ns.drop 1).map V.int := by
  unfold cutV HT.sIx
  dsimp only
  rw [if_neg (by omega), List.map_drop, List.length_map]
  rw [List.take_of_length_le (by rw [List.length_drop, List.length_map]; omega)]
  by_cases z : 1 ≤ ns.length
  · rw [show (1 : Int).toNat = 1 from rfl, Nat.min_eq_left z]
  · rw [List.drop_eq_nil_of_le (by rw [List.length_map]; omega), List.drop_eq_nil_of_le (by rw [List.length_map]; omega)]
section
variable {P : Program} {w : World} {K : PySem.W.Frag} {mg : Str → Option Value} {base : Heap}
theorem sc_look_bar : FnScope ["spots", "bar", "places", "place", "further"] ["spots", "bar"] (defScope s_look_bar) := ⟨rfl, rfl, rfl, by decide +kernel, rfl, by decide +kernel, by decide +kernel⟩
theorem ok_look_bar {f : Addr} {fd : FuncData} (F : Fun K "look_bar" "look_bar" s_look_bar f fd) (T : Txt P w K mg)  (F_look_spots : FnAt P w K mg base "look_spots" 1 spLook) (F_taken : FnAt P w K mg base "taken" 4 spTaken) : FnOk P w K mg base CX0 (4 + 1) f fd ["spots", "bar"] spLookBar := by
  refine F.ok sc_look_bar (fun vs H Q E h => ?_) (fun cdv A outer s H vs Q E hr h => ?_)
  · obtain ⟨n, a, cs, rfl, _⟩ := h
    rfl
  · obtain ⟨n, a, cs, rfl, hn, hcs, hb, k⟩ := h
    refine ⟨_, (pss_cons (ps_expr (pe_fn F_look_spots (hr.mono (by omega)) (pa_cons (pv 0) pa_nil)))
      (pss_cons (ps_if (pt_not (pt_chain op_le op_le pe_int (pe_callB cl_len (by rfl) T.n_len PySem.boot_len (pa_cons (pv 1) pa_nil)) (pe_globI T.c_MOST_CALLS)))
      (pss_one ps_never)
      pss_nil)
      (pss_cons (ps_set (i := 2) sc_look_bar.nd rfl (Or.inl rfl) (pe_callB cl_sort (by rfl) T.n_sorted bt_sorted (pa_cons (pe_comp2 (N := ["call", "place", "spots"]) (k := 2) (caps := [0]) rfl (compOk_of ["spots", "bar", "places", "place", "further"] (defScope s_look_bar).names (by decide +kernel)) (pi_list (pv 1)) (fun _ _ _ _ => (pg_name (i := 0) (show List.Nodup (["call", "place", "spots"] : List Str) by decide +kernel) rfl (Or.inl rfl))) (fun _ _ _ _ => pcs_nil) (fun _ _ _ _ => emits rfl rfl (pi_listK (K := K) rfl (pe_fn F_taken (hr.mono (by omega)) (pa_cons (pv 2) (pa_cons (pv 0) pa_nil)))) (pg_name (i := 1) (show List.Nodup (["call", "place", "spots"] : List Str) by decide +kernel) rfl (Or.inl rfl)) pcs_nil (pv 1)) (fun _ _ _ _ _ => rfl)) pa_nil)))
      (pss_one (ps_for PassesOwn.never rfl (pi_zip rfl T.n_zip (pa_cons (pv 2) (pa_cons (pe_slice sl_list (pv 2) (po_some pe_int) po_none) pa_nil))) (pg_tup rfl (pgs_cons (pg_name (i := 3) sc_look_bar.nd rfl (Or.inl rfl)) (pgs_cons (pg_name (i := 4) sc_look_bar.nd rfl (Or.inl rfl)) pgs_nil)))
      (pss_one (ps_if (pt_cmpR op_eq (pv 3) (pv 4) (nomark _))
      (pss_one ps_never)
      pss_nil))))))), ?_⟩
    obtain ⟨n1, n2⟩ := id hn
    obtain ⟨xs, ha, hp⟩ := hcs
    have lx : xs.length = cs.length := hp.length
    have l1 : 1 ≤ cs.length := List.length_pos_iff.mpr hb.one
    have l4 := hb.four
    walk_at "rd"
    refine ⟨_, rfl, ⟨_, SqL.of ha⟩, flat_new (fun i => ((cs[i]?).map Call.takes).getD []) ha (by omega) (fun i hi => ?_) (fun i x o1 H' R hx s q => ?_) fun D H1 hD s1 h1 => ?_⟩
    · rw [List.getElem?_eq_getElem (by omega)]
      show (Call.takes _).length ≤ 30
      rw [takes_eq, List.length_map]
      have := tk_len hn (hb.ok _ (List.getElem_mem (by omega : i < cs.length)))
      omega
    · obtain ⟨v, c, ev, ec, hca, hok⟩ := paired_at hp (List.getElem?_eq_some_iff.mp hx).1
      rw [hx] at ev
      cases ev
      walk_at "rd"
      refine rd_taken (hca.same s) hn hok fun p H2 hp2 s2 h2 => ?_
      exact q p H2 hp2 s2 (by rw [h2, ec]; rfl)
    have ef : (List.range xs.length).flatMap (fun i => ((cs[i]?).map Call.takes).getD []) = (cs.flatMap Call.tkI).map V.int := by
      rw [lx]
      exact flat_ix cs
    rw [ef] at h1
    walk_at "rd"
    refine i_sort (cs.flatMap Call.tkI) h1 (by have := bar_len hn hb.ok; omega) fun ns' l H2 pm pw hl2 s2 h2 => ?_
    have nd : ns'.Nodup := pm.nodup_iff.mpr (bar_nd hb)
    walk_at "rd"
    rename_i p3 H3 hp3 s3 h3
    rw [cut_from1 ns'] at h3
    refine ⟨_, _, rfl, ⟨_, SqL.of (s3 _ _ h2)⟩, ⟨_, SqL.of h3⟩, for_z (xs := ns'.map V.int) (ys := (ns'.drop 1).map V.int) (by rw [List.length_map, List.length_map, List.length_drop]; omega) (fun i σ H4 => ∃ o3 o4, σ = [some (.int n), some (.ref a), some (.ref l), o3, o4] ∧ Same H H4 ∧ H4 l = some (.lst (ns'.map V.int)) ∧ H4 p3 = some (.lst ((ns'.drop 1).map V.int))) ⟨_, _, rfl, s1.trans (s2.trans s3), s3 _ _ h2, h3⟩ (fun i σ H4 _ ⟨_, _, _, _, z1, z2⟩ => ⟨SqL.of z1, SqL.of z2⟩) ?_ ?_⟩
    · rintro i x y σ H4 t H5 hx hy ⟨o3, o4, rfl, s4, h4l, h4p⟩ ht s5 h5
      rw [List.getElem?_map] at hx hy
      rw [List.getElem?_drop] at hy
      cases e1 : ns'[i]? with
      | none => rw [e1] at hx; cases hx
      | some u =>
        cases e2 : ns'[1 + i]? with
        | none => rw [e2] at hy; cases hy
        | some w' =>
          rw [e1] at hx
          rw [e2] at hy
          cases hx
          cases hy
          have uw : ¬ u = w' := fun z => by
            obtain ⟨i1, g1⟩ := List.getElem?_eq_some_iff.mp e1
            obtain ⟨i2, g2⟩ := List.getElem?_eq_some_iff.mp e2
            have := (List.getElem_inj nd (h₀ := i1) (h₁ := i2)).mp (by rw [g1, g2, z])
            omega
          walk_at "rd"
          refine ite2 (fun cc => ?_) (fun cc => ?_)
          · exact absurd (V.int.inj (of_decide_eq_true cc)) uw
          · walk_at "rd"
            exact ⟨_, _, rfl, s4.trans s5, s5 _ _ h4l, s5 _ _ h4p⟩
    · rintro σ H4 ⟨o3, o4, rfl, s4, h4l, h4p⟩
      walk_at "rd"
      exact k _ s4
end


theorem i_ixAny {K : PySem.W.Frag} {H : Hp} {Q : VK} {p : Addr} {xs : List V} {i : Int} (h : H p = some (.lst xs)) (h0 : 0 ≤ i) (h1 : i < xs.length) (q : ∀ v, v ∈ xs → Q v H) : rIxL K (.ref p) (.int i) H Q := by
  obtain ⟨j, rfl⟩ := Int.eq_ofNat_of_zero_le h0
  have hj : j < xs.length := by omega
  exact ⟨p, xs, _, xs[j], rfl, rfl, SqL.of h, atI_nat (List.getElem?_eq_getElem hj), q _ (List.getElem_mem hj)⟩
def spSpots : Sp := fun vs H Q _ => ∃ d, vs = [.int d] ∧ ∀ s H', spots s → Same H H' → Q (.int s) H'
def spMk : Sp := fun vs H Q _ => ∃ (a : Addr) (ms : List Int) (s : Int), vs = [.ref a, .int s] ∧ H a = some (.lst (ms.map V.int)) ∧ 4 ≤ ms.length ∧ spots s ∧ ∀ v c H', Same H H' → CallAt H' v c → c.Ok s → Q v H'
def Call.tk : Call → List V
  | .cross s => [.int (2 * s), .int (2 * s + 1)] | .pass s d => [.int (2 * s + d), .int (2 * s + 2 + d)] | .corner s d => [.int (2 * s + d), .int (2 * s + 3 - d)] | _ => []
theorem stepN_per {f l j x : Nat} {neg ch : Bool} : stepN f l neg ch (j + 2 * x) = stepN f l neg ch j := by
  have e : ∀ b, (j + 2 * x + b) % 2 = (j + b) % 2 := fun b => by omega
  unfold stepN
  simp only [e]
theorem st_succ {n f l k : Nat} {neg ch : Bool} : st n f l neg ch (k + 1) = (stepN f l neg ch k).foldl swapN (st n f l neg ch k) := by
  unfold st
  rw [stepsN_succ, List.foldl_append]
theorem st_add {n f l : Nat} {neg ch : Bool} (hn : n < 7) (hl : l < n) (hf : f < l) : ∀ j, st n f l neg ch (j + 2 * (l - f + 1)) = st n f l neg ch j
  | 0 => by
    have h := List.all_eq_true.mp (List.all_eq_true.mp (List.all_eq_true.mp (List.all_eq_true.mp (List.all_eq_true.mp chk_0 n (List.mem_range.mpr hn)) l (List.mem_range.mpr hl)) f (List.mem_range.mpr hf)) neg (by cases neg <;> simp)) ch (by cases ch <;> simp)
    rw [Nat.zero_add]
    exact eq_of_beq h
  | j + 1 => by rw [show j + 1 + 2 * (l - f + 1) = (j + 2 * (l - f + 1)) + 1 from by omega, st_succ, st_succ, stepN_per, st_add hn hl hf j]
theorem st_mul {n f l : Nat} {neg ch : Bool} (hn : n < 7) (hl : l < n) (hf : f < l) (j : Nat) : ∀ q, st n f l neg ch (j + 2 * (l - f + 1) * q) = st n f l neg ch j
  | 0 => by rw [Nat.mul_zero, Nat.add_zero]
  | q + 1 => by rw [Nat.mul_succ, ← Nat.add_assoc, st_add hn hl hf, st_mul hn hl hf j q]
theorem goal_eq {s : Nat} {ch : Bool} {m m' t : Int} (h : m = m' + s * t) : goalN s ch m = goalN s ch m' := by
  funext i
  unfold goalN
  by_cases c : ch = true ∧ i % 2 = 1
  · rw [if_pos c, if_pos c, show (i : Int) - m = ((i : Int) - m') + s * (-t) from by rw [Int.mul_neg]; omega, Int.add_mul_emod_self_left]
  · rw [if_neg c, if_neg c, show (i : Int) + m = ((i : Int) + m') + s * t from by omega, Int.add_mul_emod_self_left]
theorem round_eq {n f l : Nat} {m : Int} {ch : Bool} (hn : n < 7) (hl : l < n) (hf : f < l) : roundN n f l m ch (ringN f l).length = wl n (stepsN f l (decide (m < 0)) ch m.natAbs) := by
  have s0 := ringN_len (f := f) (l := l) hf
  have kl : m.natAbs % (2 * (l - f + 1)) < 2 * (l - f + 1) := Nat.mod_lt _ (by omega)
  have h := List.all_eq_true.mp (List.all_eq_true.mp (List.all_eq_true.mp (List.all_eq_true.mp (List.all_eq_true.mp (List.all_eq_true.mp chk_k n (List.mem_range.mpr hn)) l (List.mem_range.mpr hl)) f (List.mem_range.mpr hf)) (decide (m < 0)) (by cases decide (m < 0) <;> simp)) ch (by cases ch <;> simp)) (m.natAbs % (2 * (l - f + 1))) (List.mem_range.mpr kl)
  have h' := eq_of_beq h
  have em := Nat.mod_add_div m.natAbs (2 * (l - f + 1))
  have es := st_mul (neg := decide (m < 0)) (ch := ch) hn hl hf (m.natAbs % (2 * (l - f + 1))) (m.natAbs / (2 * (l - f + 1)))
  rw [em] at es
  have wq : wl n (stepsN f l (decide (m < 0)) ch m.natAbs) = (List.range (2 * n)).map fun z => ix (st n f l (decide (m < 0)) ch m.natAbs) z := rfl
  rw [wq, es, ← h']
  have em' : ((m.natAbs % (2 * (l - f + 1)) : Nat) : Int) + ((2 * (l - f + 1) : Nat) : Int) * ((m.natAbs / (2 * (l - f + 1)) : Nat) : Int) = (m.natAbs : Int) := by
    rw [← Int.natCast_mul, ← Int.natCast_add, em]
  have g : goalN (ringN f l).length ch m = goalN (ringN f l).length ch (if decide (m < 0) = true then -((m.natAbs % (2 * (l - f + 1)) : Nat) : Int) else ((m.natAbs % (2 * (l - f + 1)) : Nat) : Int)) := by
    rw [s0]
    by_cases c : m < 0
    · rw [if_pos (decide_eq_true c)]
      refine goal_eq (t := -((m.natAbs / (2 * (l - f + 1)) : Nat) : Int)) ?_
      rw [Int.mul_neg]
      omega
    · rw [if_neg (by simpa using c)]
      refine goal_eq (t := ((m.natAbs / (2 * (l - f + 1)) : Nat) : Int)) ?_
      omega
  unfold roundN
  rw [g]
theorem way_eq {n : Nat} {c : Call} (hn : spots n) (h : c.Ok n) : c.way n = wayL n [c] := by
  obtain ⟨n1, n2⟩ := hn
  have n7 : n < 7 := by omega
  show c.way n = wl n c.sw
  cases c with
  | ring f l m => simp only [Call.Ok] at h; exact round_eq n7 (by omega) (by omega)
  | chain f l m => simp only [Call.Ok] at h; exact round_eq n7 (by omega) (by omega)
  | cross s =>
    simp only [Call.Ok] at h
    exact eq_of_beq (List.all_eq_true.mp (List.all_eq_true.mp chk_x n (List.mem_range.mpr n7)) s.toNat (List.mem_range.mpr (by omega)))
  | pass s d =>
    simp only [Call.Ok] at h
    have q := List.all_eq_true.mp (List.all_eq_true.mp (List.all_eq_true.mp chk_p n (List.mem_range.mpr n7)) s.toNat (List.mem_range.mpr (by omega))) d.toNat (List.mem_range.mpr (by omega))
    rw [Bool.and_eq_true] at q
    exact eq_of_beq q.1
  | corner s d =>
    simp only [Call.Ok] at h
    have q := List.all_eq_true.mp (List.all_eq_true.mp (List.all_eq_true.mp chk_p n (List.mem_range.mpr n7)) s.toNat (List.mem_range.mpr (by omega))) d.toNat (List.mem_range.mpr (by omega))
    rw [Bool.and_eq_true] at q
    exact eq_of_beq q.2
  | cast f l =>
    simp only [Call.Ok] at h
    have q := List.all_eq_true.mp (List.all_eq_true.mp (List.all_eq_true.mp chk_c n (List.mem_range.mpr n7)) l.toNat (List.mem_range.mpr (by omega))) f.toNat (List.mem_range.mpr (by omega))
    rw [Bool.and_eq_true] at q
    exact eq_of_beq q.1
  | lead f l =>
    simp only [Call.Ok] at h
    have q := List.all_eq_true.mp (List.all_eq_true.mp (List.all_eq_true.mp chk_c n (List.mem_range.mpr n7)) l.toNat (List.mem_range.mpr (by omega))) f.toNat (List.mem_range.mpr (by omega))
    rw [Bool.and_eq_true] at q
    exact eq_of_beq q.2
  | stand m => exact eq_of_beq (List.all_eq_true.mp chk_s n (List.mem_range.mpr n7))
theorem cut_from (ns : List Int) {n : Int} (h : 0 ≤ n) : cutV (ns.map V.int) (some n) none = (ns.drop n.toNat).map V.int := by
  unfold cutV HT.sIx
  dsimp only
  rw [if_neg (by omega), List.map_drop, List.length_map]
  rw [List.take_of_length_le (by rw [List.length_drop, List.length_map]; omega)]
  by_cases z : n.toNat ≤ ns.length
  · rw [Nat.min_eq_left z]
  · rw [List.drop_eq_nil_of_le (by rw [List.length_map]; omega), List.drop_eq_nil_of_le (by rw [List.length_map]; omega)]
theorem rd_spots {H : Hp} {Q : VK} {E : XK} {d : Int} (q : ∀ s H', spots s → Same H H' → Q (.int s) H') : spSpots [.int d] H Q E := ⟨d, rfl, q⟩
theorem rd_mk {H : Hp} {Q : VK} {E : XK} {a : Addr} {ms : List Int} {s : Int} (h : H a = some (.lst (ms.map V.int))) (l : 4 ≤ ms.length) (hs : spots s) (q : ∀ v c H', Same H H' → CallAt H' v c → c.Ok s → Q v H') : spMk [.ref a, .int s] H Q E := ⟨a, ms, s, rfl, h, l, hs, q⟩
theorem rd_num {K : PySem.W.Frag} {H : Hp} {Q : VK} {E : XK} {a : Addr} {ns : List Int} {n : Int} (h : SqL K H a (ns.map V.int)) (h0 : 0 ≤ n) (h1 : n ≤ 1000) (q : ∀ p H' (ms : List Int), Same H H' → H' p = some (.lst (ms.map V.int)) → (ms.length : Int) = n → Sm ms → Q (.ref p) H') : spNum K [.ref a, .int n] H Q E := ⟨a, ns, n, rfl, h, h0, h1, q⟩
theorem den_natV {H : Hp} {k : Nat} {p : Addr} {ns : List Nat} (h : H p = some (.lst (natV ns))) (l : ns.length ≤ 1000) : Den H (k + 2) (.lst (ns.map fun (q : Nat) => .int q)) (.ref p) := by
  refine ⟨p, _, rfl, h, by rw [List.length_map]; exact l, ?_⟩
  unfold natV
  clear h l
  induction ns with
  | nil => exact .nil
  | cons q r ih => exact .cons rfl ih

def WayAt (n : Nat) (H : Hp) (v : V) (w : List Nat) : Prop := (∃ p, v = .ref p ∧ H p = some (.lst (natV w))) ∧ w.Perm (stillN n) ∧ 0 < n
theorem natV_refs {w : List Nat} {ys : List V} (h : ∀ y ∈ ys, ∃ p, y = .ref p) (l : 0 < w.length) (e : ys = natV w) : False := by
  match w, l with
  | x :: t, _ =>
    subst e
    obtain ⟨p, hp⟩ := h (.int x) (by simp [natV])
    cases hp
theorem wayStab (n : Nat) : Stab (WayAt n) where
  mono := fun s h => by obtain ⟨⟨p, e, hp⟩, r⟩ := h; exact ⟨⟨p, e, s _ _ hp⟩, r⟩
  rf := fun h => by obtain ⟨⟨p, e, _⟩, _⟩ := h; exact ⟨p, e⟩
  wr := fun hr hD h => by
    obtain ⟨⟨p, e, hp⟩, hw, hn⟩ := h
    refine ⟨⟨p, e, ?_⟩, hw, hn⟩
    rw [upd_ne (fun z => ?_)]; exact hp
    rw [z, hD] at hp
    refine natV_refs (fun y hy => ?_) (by have := perm_len hw; omega) (HO.lst.inj (Option.some.inj hp))
    clear hp z hD hn hw
    induction hr with
    | nil => simp at hy
    | cons r t ih =>
      rcases List.mem_cons.mp hy with e | e
      · rw [e]; obtain ⟨⟨q, e, _⟩, _⟩ := r; exact ⟨q, e⟩
      · exact ih e
def thenN (u w : List Nat) : List Nat := u.map fun z => w.getD z 0
def spThen : Sp := fun vs H Q _ => ∃ (n : Nat) (a b : Addr) (u w : List Nat), vs = [.int n, .ref a, .ref b] ∧ spots n ∧ H a = some (.lst (natV u)) ∧ u.Perm (stillN n) ∧ H b = some (.lst (natV w)) ∧ w.Perm (stillN n) ∧ ∀ p H', H p = none → Same H H' → H' p = some (.lst (natV (thenN u w))) → Q (.ref p) H'
theorem rd_then {H : Hp} {Q : VK} {E : XK} {n : Nat} {a b : Addr} {u w : List Nat} (hn : spots n) (ha : H a = some (.lst (natV u))) (hu : u.Perm (stillN n)) (hb : H b = some (.lst (natV w))) (hw : w.Perm (stillN n)) (q : ∀ p H', H p = none → Same H H' → H' p = some (.lst (natV (thenN u w))) → Q (.ref p) H') : spThen [.int n, .ref a, .ref b] H Q E := ⟨n, a, b, u, w, rfl, hn, ha, hu, hb, hw, q⟩
def rowN (n : Nat) (ws : List (List Nat)) : List Nat := ws.foldl thenN (stillN n)
theorem thenN_perm {n : Nat} {u w : List Nat} (hu : u.Perm (stillN n)) (hw : w.Perm (stillN n)) : (thenN u w).Perm (stillN n) := by
  have h1 : (thenN u w).Perm (thenN (stillN n) w) := hu.map _
  have h2 : thenN (stillN n) w = w := by
    have lw := perm_len hw
    unfold thenN stillN
    refine List.ext_getElem? fun i => ?_
    rw [List.getElem?_map]
    by_cases c : i < 2 * n
    · rw [List.getElem?_range c, List.getElem?_eq_getElem (by omega)]
      show some (w.getD i 0) = _
      rw [List.getD_eq_getElem?_getD, List.getElem?_eq_getElem (by omega)]; rfl
    · rw [List.getElem?_eq_none (by rw [List.length_range]; omega), List.getElem?_eq_none (by omega)]; rfl
  rw [h2] at h1
  exact h1.trans hw
theorem rowN_perm {n : Nat} : ∀ {ws : List (List Nat)} {u : List Nat}, u.Perm (stillN n) → (∀ w ∈ ws, w.Perm (stillN n)) → (ws.foldl thenN u).Perm (stillN n)
  | [], _, hu, _ => hu
  | w :: ws, u, hu, h => by
    rw [List.foldl_cons]
    exact rowN_perm (thenN_perm hu (h w (by simp))) fun x hx => h x (by simp [hx])
def spRow : Sp := fun vs H Q _ => ∃ (n : Nat) (a : Addr) (xs : List V) (ws : List (List Nat)), vs = [.int n, .ref a] ∧ spots n ∧ H a = some (.lst xs) ∧ Paired (WayAt n H) xs ws ∧ ∀ p H', Same H H' → H' p = some (.lst (natV (rowN n ws))) → Q (.ref p) H'
theorem rd_row {H : Hp} {Q : VK} {E : XK} {n : Nat} {a : Addr} {xs : List V} {ws : List (List Nat)} (hn : spots n) (ha : H a = some (.lst xs)) (hw : Paired (WayAt n H) xs ws) (q : ∀ p H', Same H H' → H' p = some (.lst (natV (rowN n ws))) → Q (.ref p) H') : spRow [.int n, .ref a] H Q E := ⟨n, a, xs, ws, rfl, hn, ha, hw, q⟩
def spBarWay : Sp := fun vs H Q _ => ∃ (n : Nat) (a : Addr) (cs : List Call), vs = [.int n, .ref a] ∧ spots n ∧ Calls n H a cs ∧ BarOk n cs ∧ ∀ p H', Same H H' → H' p = some (.lst (natV (rowN n (cs.map (Call.way n))))) → Q (.ref p) H'
theorem rd_barway {H : Hp} {Q : VK} {E : XK} {n : Nat} {a : Addr} {cs : List Call} (hn : spots n) (h : Calls n H a cs) (hb : BarOk n cs) (q : ∀ p H', Same H H' → H' p = some (.lst (natV (rowN n (cs.map (Call.way n))))) → Q (.ref p) H') : spBarWay [.int n, .ref a] H Q E := ⟨n, a, cs, rfl, hn, h, hb, q⟩
def spBarBeats : Sp := fun vs H Q _ => ∃ (n : Nat) (a : Addr) (cs : List Call), vs = [.int n, .ref a] ∧ spots n ∧ Calls n H a cs ∧ BarOk n cs ∧ ∀ (M : Int) H', Same H H' → M ∈ cs.map Call.beats → (∀ x ∈ cs.map Call.beats, x ≤ M) → Q (.int M) H'
theorem rd_barbeats {H : Hp} {Q : VK} {E : XK} {n : Nat} {a : Addr} {cs : List Call} (hn : spots n) (h : Calls n H a cs) (hb : BarOk n cs) (q : ∀ (M : Int) H', Same H H' → M ∈ cs.map Call.beats → (∀ x ∈ cs.map Call.beats, x ≤ M) → Q (.int M) H') : spBarBeats [.int n, .ref a] H Q E := ⟨n, a, cs, rfl, hn, h, hb, q⟩
theorem row_take {n : Nat} {ws : List (List Nat)} {w : List Nat} {i : Nat} (h : ws[i]? = some w) : rowN n (ws.take (i + 1)) = thenN (rowN n (ws.take i)) w := by
  unfold rowN
  rw [List.take_succ, h, List.foldl_append]; rfl
theorem beats_map (cs : List Call) : ((List.range cs.length).map fun i => V.int ((cs[i]?).map Call.beats |>.getD 0)) = (cs.map Call.beats).map V.int := by
  refine List.ext_getElem? fun i => ?_
  rw [List.getElem?_map, List.getElem?_map, List.getElem?_map]
  by_cases c : i < cs.length
  · rw [List.getElem?_range c, List.getElem?_eq_getElem c]
    show some (V.int ((cs[i]?).map Call.beats |>.getD 0)) = _
    rw [List.getElem?_eq_getElem c]; rfl
  · rw [List.getElem?_eq_none (by rw [List.length_range]; omega), List.getElem?_eq_none (by omega)]; rfl

theorem prm_x : ((List.range 7).all fun n => (List.range n).all fun s => (exchN n (2 * s) (2 * s + 1)).isPerm (stillN n)) = true := by decide +kernel
theorem prm_p : ((List.range 7).all fun n => (List.range (n - 1)).all fun s => (List.range 2).all fun e => (exchN n (2 * s + e) (2 * s + 2 + e)).isPerm (stillN n) && (exchN n (2 * s + e) (2 * s + 3 - e)).isPerm (stillN n)) = true := by decide +kernel
theorem prm_c : ((List.range 7).all fun n => (List.range n).all fun l => (List.range l).all fun f => (castN n f l).isPerm (stillN n) && (undoN n (castN n f l) (castN n f l).length).isPerm (stillN n)) = true := by decide +kernel
theorem prm_k : ((List.range 7).all fun n => (List.range n).all fun l => (List.range l).all fun f => [true, false].all fun neg => [true, false].all fun ch => (List.range (2 * (l - f + 1))).all fun k => ((List.range (2 * n)).map fun z => ix (st n f l neg ch k) z).isPerm (stillN n)) = true := by decide +kernel
theorem round_perm {n f l : Nat} {m : Int} {ch : Bool} (hn : n < 7) (hl : l < n) (hf : f < l) : (roundN n f l m ch (ringN f l).length).Perm (stillN n) := by
  rw [round_eq hn hl hf]
  have kl : m.natAbs % (2 * (l - f + 1)) < 2 * (l - f + 1) := Nat.mod_lt _ (by omega)
  have h := List.all_eq_true.mp (List.all_eq_true.mp (List.all_eq_true.mp (List.all_eq_true.mp (List.all_eq_true.mp (List.all_eq_true.mp prm_k n (List.mem_range.mpr hn)) l (List.mem_range.mpr hl)) f (List.mem_range.mpr hf)) (decide (m < 0)) (by cases decide (m < 0) <;> simp)) ch (by cases ch <;> simp)) (m.natAbs % (2 * (l - f + 1))) (List.mem_range.mpr kl)
  have es := st_mul (neg := decide (m < 0)) (ch := ch) hn hl hf (m.natAbs % (2 * (l - f + 1))) (m.natAbs / (2 * (l - f + 1)))
  rw [Nat.mod_add_div] at es
  have wq : wl n (stepsN f l (decide (m < 0)) ch m.natAbs) = (List.range (2 * n)).map fun z => ix (st n f l (decide (m < 0)) ch m.natAbs) z := rfl
  rw [wq, es]
  exact List.isPerm_iff.mp h
theorem way_perm {n : Nat} {c : Call} (hn : spots n) (h : c.Ok n) : (c.way n).Perm (stillN n) := by
  obtain ⟨n1, n2⟩ := hn
  have n7 : n < 7 := by omega
  cases c with
  | ring f l m => simp only [Call.Ok] at h; exact round_perm n7 (by omega) (by omega)
  | chain f l m => simp only [Call.Ok] at h; exact round_perm n7 (by omega) (by omega)
  | cross s =>
    simp only [Call.Ok] at h
    exact List.isPerm_iff.mp (List.all_eq_true.mp (List.all_eq_true.mp prm_x n (List.mem_range.mpr n7)) s.toNat (List.mem_range.mpr (by omega)))
  | pass s d =>
    simp only [Call.Ok] at h
    have q := List.all_eq_true.mp (List.all_eq_true.mp (List.all_eq_true.mp prm_p n (List.mem_range.mpr n7)) s.toNat (List.mem_range.mpr (by omega))) d.toNat (List.mem_range.mpr (by omega))
    rw [Bool.and_eq_true] at q
    exact List.isPerm_iff.mp q.1
  | corner s d =>
    simp only [Call.Ok] at h
    have q := List.all_eq_true.mp (List.all_eq_true.mp (List.all_eq_true.mp prm_p n (List.mem_range.mpr n7)) s.toNat (List.mem_range.mpr (by omega))) d.toNat (List.mem_range.mpr (by omega))
    rw [Bool.and_eq_true] at q
    exact List.isPerm_iff.mp q.2
  | cast f l =>
    simp only [Call.Ok] at h
    have q := List.all_eq_true.mp (List.all_eq_true.mp (List.all_eq_true.mp prm_c n (List.mem_range.mpr n7)) l.toNat (List.mem_range.mpr (by omega))) f.toNat (List.mem_range.mpr (by omega))
    rw [Bool.and_eq_true] at q
    exact List.isPerm_iff.mp q.1
  | lead f l =>
    simp only [Call.Ok] at h
    have q := List.all_eq_true.mp (List.all_eq_true.mp (List.all_eq_true.mp prm_c n (List.mem_range.mpr n7)) l.toNat (List.mem_range.mpr (by omega))) f.toNat (List.mem_range.mpr (by omega))
    rw [Bool.and_eq_true] at q
    exact List.isPerm_iff.mp q.2
  | stand m => exact List.Perm.refl _

section
variable {P : Program} {w : World} {K : PySem.W.Frag} {mg : Str → Option Value} {base : Heap}
theorem sc_then : FnScope ["spots", "one", "other"] ["spots", "one", "other"] (defScope s_then) := ⟨rfl, rfl, rfl, by decide +kernel, rfl, by decide +kernel, by decide +kernel⟩
theorem ok_then {f : Addr} {fd : FuncData} (F : Fun K "then" "then" s_then f fd) (T : Txt P w K mg)  (F_look_spots : FnAt P w K mg base "look_spots" 1 spLook) (F_look_way : FnAt P w K mg base "look_way" 1 spLWay) : FnOk P w K mg base CX0 (1 + 1) f fd ["spots", "one", "other"] spThen := by
  refine F.ok sc_then (fun vs H Q E h => ?_) (fun cdv A outer s H vs Q E hr h => ?_)
  · obtain ⟨n, a, b, u, w, rfl, _⟩ := h
    rfl
  · obtain ⟨n, a, b, u, w', rfl, hn, ha, hu, hb, hw, k⟩ := h
    refine ⟨_, (pss_cons (ps_expr (pe_fn F_look_spots (hr.mono (by omega)) (pa_cons (pv 0) pa_nil)))
      (pss_cons (ps_expr (pe_fn F_look_way (hr.mono (by omega)) (pa_cons (pv 0) (pa_cons (pv 1) pa_nil))))
      (pss_cons (ps_expr (pe_fn F_look_way (hr.mono (by omega)) (pa_cons (pv 0) (pa_cons (pv 2) pa_nil))))
      (pss_one (ps_ret (pe_comp (N := ["place", "other"]) (k := 1) (caps := [2]) rfl (compOk_of ["spots", "one", "other"] (defScope s_then).names (by decide +kernel)) (pi_list (pv 1)) (fun _ _ _ _ => (pg_name (i := 0) (show List.Nodup (["place", "other"] : List Str) by decide +kernel) rfl (Or.inl rfl))) (fun _ _ _ _ => pcs_nil) (fun _ _ _ _ => (pe_ix (kIx (r := rIxL) (K := K) ix_list rfl) (pv 1) (pv 0) (fun _ _ => rfl))))))))), ?_⟩
    obtain ⟨n1, n2⟩ := id hn
    have lu := perm_len hu
    have lw := perm_len hw
    walk_at "rd"
    refine rd_lway hn ha hu fun H1 s1 => ?_
    walk_at "rd"
    refine rd_lway hn (s1 _ _ hb) hw fun H2 s2 => ?_
    walk_at "rd"
    have a2 : H2 a = some (.lst (natV u)) := s2 _ _ (s1 _ _ ha)
    have b2 : H2 b = some (.lst (natV w')) := s2 _ _ (s1 _ _ hb)
    refine ⟨_, rfl, ⟨_, SqL.of a2⟩, comp_lm (fun i => .int ((w'.getD (u.getD i 0) 0 : Nat) : Int)) a2 ?_ ?_⟩
    · intro D i x own H3 hD hx ho s3 e3
      obtain ⟨o, rfl⟩ : ∃ o, own = [o] := by
        match own, ho with
        | [o], _ => exact ⟨o, rfl⟩
      have hi : i < u.length := by have := (List.getElem?_eq_some_iff.mp hx).1; rw [natV_len] at this; exact this
      obtain ⟨q, hq⟩ : ∃ q, u[i]? = some q := ⟨u[i], List.getElem?_eq_getElem hi⟩
      rw [natV_at hq] at hx
      cases hx
      have ql := perm_lt hu (List.mem_of_getElem? hq)
      obtain ⟨r, hr'⟩ : ∃ r, w'[q]? = some r := ⟨w'[q], List.getElem?_eq_getElem (by omega)⟩
      have x2 : atI (natV w') (q : Int) = some (.int (r : Nat)) := atI_nat (natV_at hr')
      walk_at "rd"
      refine yieldM [some (.int (q : Int))] (by rw [natV_len]; omega) (by rw [natV_len]; exact hi) hD s3 e3 (by walk_at "sm") ?_ rfl rfl
      rw [List.getD_eq_getElem?_getD, List.getD_eq_getElem?_getD, hq]
      show _ = V.int (((w'[q]?).getD 0 : Nat) : Int)
      rw [hr']; rfl
    intro D H3 hD s3 e3
    have ed : ((List.range (natV u).length).map fun i => V.int ((w'.getD (u.getD i 0) 0 : Nat) : Int)) = natV (thenN u w') := by
      rw [natV_len, natV_map]
      unfold thenN
      congr 1
      refine List.ext_getElem? fun i => ?_
      rw [List.getElem?_map, List.getElem?_map]
      by_cases c : i < u.length
      · rw [List.getElem?_range c, List.getElem?_eq_getElem c]
        show some (w'.getD (u.getD i 0) 0) = some (w'.getD u[i] 0)
        rw [List.getD_eq_getElem?_getD (l := u), List.getElem?_eq_getElem c]; rfl
      · rw [List.getElem?_eq_none (by rw [List.length_range]; omega), List.getElem?_eq_none (by omega)]; rfl
    rw [ed] at e3
    exact k _ _ (s1.free (s2.free hD)) (s1.trans (s2.trans s3)) e3
theorem sc_row_way : FnScope ["spots", "ways", "whole", "way"] ["spots", "ways"] (defScope s_row_way) := ⟨rfl, rfl, rfl, by decide +kernel, rfl, by decide +kernel, by decide +kernel⟩
theorem ok_row_way {f : Addr} {fd : FuncData} (F : Fun K "row_way" "row_way" s_row_way f fd) (T : Txt P w K mg)  (F_still : FnAt P w K mg base "still" 2 spStill) (F_then : FnAt P w K mg base "then" 2 spThen) : FnOk P w K mg base CX0 (2 + 1) f fd ["spots", "ways"] spRow := by
  refine F.ok sc_row_way (fun vs H Q E h => ?_) (fun cdv A outer s H vs Q E hr h => ?_)
  · obtain ⟨n, a, xs, ws, rfl, _⟩ := h
    rfl
  · obtain ⟨n, a, xs, ws, rfl, hn, ha, hws, k⟩ := h
    refine ⟨_, (pss_cons (ps_set (i := 2) sc_row_way.nd rfl (Or.inl rfl) (pe_fn F_still (hr.mono (by omega)) (pa_cons (pv 0) pa_nil)))
      (pss_cons (ps_for PassesOwn.never rfl (pi_list (pv 1)) (pg_name (i := 3) sc_row_way.nd rfl (Or.inl rfl))
      (pss_one (ps_set (i := 2) sc_row_way.nd rfl (Or.inl rfl) (pe_fn F_then (hr.mono (by omega)) (pa_cons (pv 0) (pa_cons (pv 2) (pa_cons (pv 3) pa_nil)))))))
      (pss_one (ps_ret (pv 2))))), ?_⟩
    obtain ⟨n1, n2⟩ := id hn
    have hp : ∀ w ∈ ws, w.Perm (stillN n) := fun w hw => by
      obtain ⟨i, hi, rfl⟩ := List.mem_iff_getElem.mp hw
      obtain ⟨v, w2, e1, e2, h3⟩ := paired_at hws (by rw [hws.length]; exact hi)
      rw [List.getElem?_eq_getElem hi] at e2
      cases e2
      exact h3.2.1
    walk_at "rd"
    refine rd_still hn fun l H2 hl s2 h2 => ?_
    walk_at "rd"
    refine ⟨_, rfl, ⟨_, SqL.of (s2 _ _ ha)⟩, for_l (xs := xs) (fun i σ H3 => ∃ pw o3, σ = [some (.int n), some (.ref a), some (.ref pw), o3] ∧ Same H H3 ∧ H3 pw = some (.lst (natV (rowN n (ws.take i))))) ⟨l, _, rfl, s2, h2⟩ (fun i σ H3 _ ⟨_, _, _, s3, _⟩ => SqL.of (s3 _ _ ha)) ?_ ?_⟩
    · rintro i x σ H3 hx ⟨pw, o3, rfl, s3, h3⟩
      have hi : i < xs.length := (List.getElem?_eq_some_iff.mp hx).1
      obtain ⟨v, w', ev, ew, hwy⟩ := paired_at hws hi
      rw [hx] at ev
      cases ev
      obtain ⟨⟨q, rfl, hq⟩, hwp, _⟩ := hwy
      walk_at "rd"
      refine rd_then hn h3 (rowN_perm (List.Perm.refl _) fun z hz => hp z (List.mem_of_mem_take hz)) (s3 _ _ hq) hwp fun p4 H4 hp4 s4 h4 => ?_
      walk_at "rd"
      exact ⟨p4, _, rfl, s3.trans s4, by rw [h4, row_take ew]⟩
    · rintro σ H3 ⟨pw, o3, rfl, s3, h3⟩
      walk_at "rd"
      rw [hws.length, List.take_length] at h3
      exact k _ _ s3 h3
theorem sc_bar_way : FnScope ["spots", "bar"] ["spots", "bar"] (defScope s_bar_way) := ⟨rfl, rfl, rfl, by decide +kernel, rfl, by decide +kernel, by decide +kernel⟩
theorem ok_bar_way {f : Addr} {fd : FuncData} (F : Fun K "bar_way" "bar_way" s_bar_way f fd) (T : Txt P w K mg)  (F_look_bar : FnAt P w K mg base "look_bar" 5 spLookBar) (F_call_way : FnAt P w K mg base "call_way" 4 spWay) (F_row_way : FnAt P w K mg base "row_way" 3 spRow) : FnOk P w K mg base CX0 (5 + 1) f fd ["spots", "bar"] spBarWay := by
  refine F.ok sc_bar_way (fun vs H Q E h => ?_) (fun cdv A outer s H vs Q E hr h => ?_)
  · obtain ⟨n, a, cs, rfl, _⟩ := h
    rfl
  · obtain ⟨n, a, cs, rfl, hn, hcs, hb, k⟩ := h
    refine ⟨_, (pss_cons (ps_expr (pe_fn F_look_bar (hr.mono (by omega)) (pa_cons (pv 0) (pa_cons (pv 1) pa_nil))))
      (pss_one (ps_ret (pe_fn F_row_way (hr.mono (by omega)) (pa_cons (pv 0) (pa_cons (pe_comp (N := ["call", "spots"]) (k := 1) (caps := [0]) rfl (compOk_of ["spots", "bar"] (defScope s_bar_way).names (by decide +kernel)) (pi_list (pv 1)) (fun _ _ _ _ => (pg_name (i := 0) (show List.Nodup (["call", "spots"] : List Str) by decide +kernel) rfl (Or.inl rfl))) (fun _ _ _ _ => pcs_nil) (fun _ _ _ _ => (pe_fn F_call_way (hr.mono (by omega)) (pa_cons (pv 1) (pa_cons (pv 0) pa_nil))))) pa_nil)))))), ?_⟩
    obtain ⟨n1, n2⟩ := id hn
    walk_at "rd"
    refine rd_lookbar hn hcs hb fun H1 s1 => ?_
    obtain ⟨xs, ha, hp⟩ := hcs.same s1
    have lx : xs.length = cs.length := hp.length
    have l4 := hb.four
    walk_at "rd"
    refine ⟨_, rfl, ⟨_, SqL.of ha⟩, comp_lR (R := WayAt n) (fun j w => w = (((cs[j]?).map (Call.way n)).getD [])) ha ?_ ?_⟩
    · intro D i x own H3 ys as hD hx ho s3 e3 hpr la hG
      obtain ⟨o, rfl⟩ : ∃ o, own = [o] := by
        match own, ho with
        | [o], _ => exact ⟨o, rfl⟩
      have hi : i < xs.length := (List.getElem?_eq_some_iff.mp hx).1
      obtain ⟨v, c, ev, ec, hca, hok⟩ := paired_at hp hi
      rw [hx] at ev
      cases ev
      walk_at "rd"
      refine rd_way (c := c) (hca.same s3) hn hok fun q4 H4 s4 h4 => ?_
      exact yieldR (wayStab n) [some x] (by omega) hi hD s3 e3 hpr la hG s4 ⟨⟨q4, rfl, h4⟩, way_perm hn hok, by omega⟩ (by rw [ec]; rfl) rfl rfl
    intro D H3 ys as hD s3 e3 hpr la hG
    have ea : as = cs.map (Call.way n) := by
      rw [as_map la hG, lx]
      refine List.ext_getElem? fun i => ?_
      rw [List.getElem?_map, List.getElem?_map]
      by_cases c : i < cs.length
      · rw [List.getElem?_range c]
        show some (((cs[i]?).map (Call.way n)).getD []) = _
        rw [List.getElem?_eq_getElem c]; rfl
      · rw [List.getElem?_eq_none (by rw [List.length_range]; omega), List.getElem?_eq_none (by omega)]; rfl
    rw [ea] at hpr
    walk_at "rd"
    refine rd_row hn e3 hpr fun p4 H4 s4 h4 => ?_
    exact k _ _ (s1.trans (s3.trans s4)) h4
theorem sc_bar_beats : FnScope ["spots", "bar"] ["spots", "bar"] (defScope s_bar_beats) := ⟨rfl, rfl, rfl, by decide +kernel, rfl, by decide +kernel, by decide +kernel⟩
theorem ok_bar_beats {f : Addr} {fd : FuncData} (F : Fun K "bar_beats" "bar_beats" s_bar_beats f fd) (T : Txt P w K mg)  (F_look_bar : FnAt P w K mg base "look_bar" 5 spLookBar) (F_beats : FnAt P w K mg base "beats" 4 spBeats) : FnOk P w K mg base CX0 (5 + 1) f fd ["spots", "bar"] spBarBeats := by
  refine F.ok sc_bar_beats (fun vs H Q E h => ?_) (fun cdv A outer s H vs Q E hr h => ?_)
  · obtain ⟨n, a, cs, rfl, _⟩ := h
    rfl
  · obtain ⟨n, a, cs, rfl, hn, hcs, hb, k⟩ := h
    refine ⟨_, (pss_cons (ps_expr (pe_fn F_look_bar (hr.mono (by omega)) (pa_cons (pv 0) (pa_cons (pv 1) pa_nil))))
      (pss_one (ps_ret (pe_callB (cl_maxL rfl) (by rfl) T.n_max bt_max1 (pa_cons (pe_comp (N := ["call", "spots"]) (k := 1) (caps := [0]) rfl (compOk_of ["spots", "bar"] (defScope s_bar_beats).names (by decide +kernel)) (pi_list (pv 1)) (fun _ _ _ _ => (pg_name (i := 0) (show List.Nodup (["call", "spots"] : List Str) by decide +kernel) rfl (Or.inl rfl))) (fun _ _ _ _ => pcs_nil) (fun _ _ _ _ => (pe_fn F_beats (hr.mono (by omega)) (pa_cons (pv 1) (pa_cons (pv 0) pa_nil))))) pa_nil))))), ?_⟩
    obtain ⟨n1, n2⟩ := id hn
    walk_at "rd"
    refine rd_lookbar hn hcs hb fun H1 s1 => ?_
    obtain ⟨xs, ha, hp⟩ := hcs.same s1
    have lx : xs.length = cs.length := hp.length
    have l4 := hb.four
    walk_at "rd"
    refine ⟨_, rfl, ⟨_, SqL.of ha⟩, comp_lm (fun i => .int ((cs[i]?).map Call.beats |>.getD 0)) ha ?_ ?_⟩
    · intro D i x own H3 hD hx ho s3 e3
      obtain ⟨o, rfl⟩ : ∃ o, own = [o] := by
        match own, ho with
        | [o], _ => exact ⟨o, rfl⟩
      have hi : i < xs.length := (List.getElem?_eq_some_iff.mp hx).1
      obtain ⟨v, c, ev, ec, hca, hok⟩ := paired_at hp hi
      rw [hx] at ev
      cases ev
      walk_at "rd"
      refine rd_beats (c := c) (hca.same s3) hn hok fun H4 s4 => ?_
      exact yieldM [some x] (by omega) hi hD s3 e3 s4 (by rw [ec]; rfl) rfl rfl
    intro D H3 hD s3 e3
    rw [lx, beats_map] at e3
    walk_at "rd"
    refine i_maxL _ e3 (by intro z; exact hb.one (List.map_eq_nil_iff.mp z)) fun M m1 m2 => ?_
    exact k _ _ (s1.trans s3) m1 m2
end


theorem swapN_perm {r : List Nat} {q : Nat × Nat} (h1 : q.1 < r.length) (h2 : q.2 < r.length) : (swapN r q).Perm r := by
  unfold swapN
  rw [List.getD_eq_getElem?_getD, List.getD_eq_getElem?_getD, List.getElem?_eq_getElem h1, List.getElem?_eq_getElem h2]
  exact List.set_set_perm h1 h2
theorem swaps_perm : ∀ {sw : List (Nat × Nat)} {r : List Nat}, (∀ q ∈ sw, q.1 < r.length ∧ q.2 < r.length) → (sw.foldl swapN r).Perm r
  | [], _, _ => List.Perm.refl _
  | q :: sw, r, h => by
    rw [List.foldl_cons]
    exact (swaps_perm fun p hp => by rw [swapN_len]; exact h p (by simp [hp])).trans (swapN_perm (h q (by simp)).1 (h q (by simp)).2)
theorem getD_map {r : List Nat} {g : Nat → Nat} {i : Nat} (h : i < r.length) : (r.map g).getD i 0 = g (r.getD i 0) := by
  rw [List.getD_eq_getElem?_getD, List.getElem?_map, List.getElem?_eq_getElem h, List.getD_eq_getElem?_getD, List.getElem?_eq_getElem h]; rfl
theorem swapN_map {r : List Nat} {g : Nat → Nat} {q : Nat × Nat} (h1 : q.1 < r.length) (h2 : q.2 < r.length) : swapN (r.map g) q = (swapN r q).map g := by
  unfold swapN
  rw [List.map_set, List.map_set, getD_map h1, getD_map h2]
theorem swaps_map {g : Nat → Nat} : ∀ {sw : List (Nat × Nat)} {r : List Nat}, (∀ q ∈ sw, q.1 < r.length ∧ q.2 < r.length) → sw.foldl swapN (r.map g) = (sw.foldl swapN r).map g
  | [], _, _ => rfl
  | q :: sw, r, h => by
    rw [List.foldl_cons, List.foldl_cons, swapN_map (h q (by simp)).1 (h q (by simp)).2]
    exact swaps_map fun p hp => by rw [swapN_len]; exact h p (by simp [hp])
theorem still_len (n : Nat) : (stillN n).length = 2 * n := by unfold stillN; simp
theorem self_map {n : Nat} {r : List Nat} (h : r.length = 2 * n) : r = (stillN n).map fun z => r.getD z 0 := by
  unfold stillN
  refine List.ext_getElem? fun i => ?_
  rw [List.getElem?_map]
  by_cases c : i < 2 * n
  · rw [List.getElem?_eq_getElem (by omega), List.getElem?_range c]
    show _ = some (r.getD i 0)
    rw [List.getD_eq_getElem?_getD, List.getElem?_eq_getElem (by omega)]
    rfl
  · rw [List.getElem?_eq_none (by omega), List.getElem?_eq_none (by rw [List.length_range]; omega)]
    rfl
theorem behind {n : Nat} {r : List Nat} {sw : List (Nat × Nat)} (hl : r.length = 2 * n) (h : ∀ q ∈ sw, q.1 < 2 * n ∧ q.2 < 2 * n) : sw.foldl swapN r = (sw.foldl swapN (stillN n)).map fun z => r.getD z 0 := by
  have e := swaps_map (g := fun z => r.getD z 0) (sw := sw) (r := stillN n) (fun q hq => by have := h q hq; rw [still_len]; exact this)
  rw [← e, ← self_map hl]
theorem ix_uni {l : List Nat} {p z : Nat} (nd : l.Nodup) (h : l[p]? = some z) : ix l z = p := by
  obtain ⟨hp, e⟩ := List.getElem?_eq_some_iff.mp h
  obtain ⟨h1, h2⟩ := ix_at (List.mem_of_getElem? h)
  obtain ⟨hi, e2⟩ := List.getElem?_eq_some_iff.mp h1
  exact (List.getElem_inj nd).mp (e2.trans e.symm)
def invN (n : Nat) (r : List Nat) : List Nat := (List.range (2 * n)).map fun z => ix r z
theorem inv_step {n : Nat} {r : List Nat} {c : Call} (hn : spots n) (h : c.Ok n) (hr : r.Perm (stillN n)) : thenN (invN n r) (c.way n) = invN n (c.sw.foldl swapN r) := by
  have lr := perm_len hr
  have hs : ∀ q ∈ c.sw, q.1 < 2 * n ∧ q.2 < 2 * n := fun q hq => sw_lt hn h hq
  have hq : (c.sw.foldl swapN (stillN n)).Perm (stillN n) := swaps_perm fun q hq => by rw [still_len]; exact hs q hq
  have hb := behind lr hs
  have nd : (c.sw.foldl swapN r).Nodup := ((swaps_perm fun q hq => by rw [lr]; exact hs q hq).trans hr).nodup_iff.mpr List.nodup_range
  generalize hqe : c.sw.foldl swapN (stillN n) = q at hq hb
  have lq := perm_len hq
  have ew : c.way n = invN n q := by rw [way_eq hn h, ← hqe]; rfl
  rw [ew]
  unfold thenN invN
  rw [List.map_map]
  refine List.map_congr_left fun z hz => ?_
  have hz' := List.mem_range.mp hz
  have mz : z ∈ r := hr.mem_iff.mpr (by unfold stillN; exact hz)
  obtain ⟨r1, r2⟩ := ix_at mz
  obtain ⟨ri, re⟩ := List.getElem?_eq_some_iff.mp r1
  have m2 : ix r z ∈ q := hq.mem_iff.mpr (by unfold stillN; exact List.mem_range.mpr (by omega))
  obtain ⟨q1, q2⟩ := ix_at m2
  obtain ⟨qi, qe⟩ := List.getElem?_eq_some_iff.mp q1
  show ((List.range (2 * n)).map fun z => ix q z).getD (ix r z) 0 = _
  rw [List.getD_eq_getElem?_getD, List.getElem?_map, List.getElem?_range (by omega)]
  show ix q (ix r z) = _
  refine (ix_uni nd ?_).symm
  rw [hb, List.getElem?_map, q1]
  show some (r.getD (ix r z) 0) = some z
  rw [List.getD_eq_getElem?_getD, r1]; rfl
theorem walkN_cons {c : Call} {cs : List Call} {r : List Nat} : walkN r (c :: cs) = walkN (c.sw.foldl swapN r) cs := rfl
theorem row_inv {n : Nat} (hn : spots n) : ∀ {cs : List Call} {r : List Nat}, (∀ c ∈ cs, c.Ok n) → r.Perm (stillN n) → (cs.map (Call.way n)).foldl thenN (invN n r) = invN n (walkN r cs)
  | [], _, _, _ => rfl
  | c :: cs, r, hc, h => by
    rw [List.map_cons, List.foldl_cons, inv_step hn (hc c (by simp)) h, walkN_cons]
    exact row_inv hn (fun d hd => hc d (by simp [hd])) ((swaps_perm fun q hq => by rw [perm_len h]; exact sw_lt hn (hc c (by simp)) hq).trans h)
theorem ix_range {n z : Nat} (h : z < n) : ix (List.range n) z = z := ix_uni List.nodup_range (List.getElem?_range h)
theorem inv_still (n : Nat) : invN n (stillN n) = stillN n := by
  unfold invN stillN
  have := List.map_congr_left (l := List.range (2 * n)) (f := fun z => ix (List.range (2 * n)) z) (g := id) fun z hz => ix_range (List.mem_range.mp hz)
  rw [this, List.map_id]
theorem row_way_eq {n : Nat} {cs : List Call} (hn : spots n) (h : ∀ c ∈ cs, c.Ok n) : rowN n (cs.map (Call.way n)) = wayL n cs := by
  have := row_inv hn h (List.Perm.refl (stillN n))
  rw [inv_still] at this
  exact this
theorem swapN_comm {r : List Nat} {p q : Nat × Nat} (h11 : p.1 ≠ q.1) (h12 : p.1 ≠ q.2) (h21 : p.2 ≠ q.1) (h22 : p.2 ≠ q.2) : swapN (swapN r p) q = swapN (swapN r q) p := by
  have key : ∀ {r : List Nat} {p q : Nat × Nat}, p.1 ≠ q.1 → p.1 ≠ q.2 → p.2 ≠ q.1 → p.2 ≠ q.2 → (swapN r p).getD q.1 0 = r.getD q.1 0 ∧ (swapN r p).getD q.2 0 = r.getD q.2 0 := fun {r p q} h11 h12 h21 h22 => by
    unfold swapN
    constructor
    · rw [List.getD_eq_getElem?_getD, List.getElem?_set_ne h21, List.getElem?_set_ne h11, List.getD_eq_getElem?_getD]
    · rw [List.getD_eq_getElem?_getD, List.getElem?_set_ne h22, List.getElem?_set_ne h12, List.getD_eq_getElem?_getD]
  obtain ⟨a1, a2⟩ := key (r := r) h11 h12 h21 h22
  obtain ⟨b1, b2⟩ := key (r := r) (p := q) (q := p) (Ne.symm h11) (Ne.symm h21) (Ne.symm h12) (Ne.symm h22)
  have e1 : swapN (swapN r p) q = ((swapN r p).set q.1 (r.getD q.2 0)).set q.2 (r.getD q.1 0) := by rw [← a1, ← a2]; rfl
  have e2 : swapN (swapN r q) p = ((swapN r q).set p.1 (r.getD p.2 0)).set p.2 (r.getD p.1 0) := by rw [← b1, ← b2]; rfl
  rw [e1, e2]
  unfold swapN
  rw [List.set_comm _ _ h21, List.set_comm _ _ h11, List.set_comm _ _ h22, List.set_comm _ _ h12]
theorem swaps_comm1 {p : Nat × Nat} : ∀ {sw : List (Nat × Nat)} {r : List Nat}, (∀ q ∈ sw, p.1 ≠ q.1 ∧ p.1 ≠ q.2 ∧ p.2 ≠ q.1 ∧ p.2 ≠ q.2) → sw.foldl swapN (swapN r p) = swapN (sw.foldl swapN r) p
  | [], _, _ => rfl
  | q :: sw, r, h => by
    obtain ⟨a, b, c, d⟩ := h q (by simp)
    rw [List.foldl_cons, List.foldl_cons, swapN_comm a b c d]
    exact swaps_comm1 fun x hx => h x (by simp [hx])
theorem swaps_comm : ∀ {s1 s2 : List (Nat × Nat)} {r : List Nat}, (∀ p ∈ s1, ∀ q ∈ s2, p.1 ≠ q.1 ∧ p.1 ≠ q.2 ∧ p.2 ≠ q.1 ∧ p.2 ≠ q.2) → s2.foldl swapN (s1.foldl swapN r) = s1.foldl swapN (s2.foldl swapN r)
  | [], _, _, _ => rfl
  | p :: s1, s2, r, h => by
    rw [List.foldl_cons, List.foldl_cons, ← swaps_comm1 (h p (by simp))]
    exact swaps_comm fun x hx => h x (by simp [hx])
theorem rg_in {f l i : Nat} (hf : f < l) (h : i < (ringN f l).length) : 2 * f ≤ rg f l i ∧ rg f l i ≤ 2 * l + 1 := by
  have hm := List.mem_of_getElem? (rg_at h)
  unfold ringN at hm
  simp only [List.mem_append, List.mem_cons, List.not_mem_nil, or_false, List.mem_map, List.mem_range] at hm
  rcases hm with (e | ⟨i, hi, e⟩) | ⟨i, hi, e⟩ <;> omega
theorem step_in {f l j : Nat} {neg ch : Bool} (hf : f < l) {q : Nat × Nat} (hq : q ∈ stepN f l neg ch j) : (2 * f ≤ q.1 ∧ q.1 ≤ 2 * l + 1) ∧ 2 * f ≤ q.2 ∧ q.2 ≤ 2 * l + 1 := by
  have rl := ringN_len (f := f) (l := l) hf
  unfold stepN at hq
  have key : ∀ {x : Nat → Nat × Nat} {m : Nat}, (∀ i, i < m → (2 * f ≤ (x i).1 ∧ (x i).1 ≤ 2 * l + 1) ∧ 2 * f ≤ (x i).2 ∧ (x i).2 ≤ 2 * l + 1) → q ∈ (List.range m).map x → (2 * f ≤ q.1 ∧ q.1 ≤ 2 * l + 1) ∧ 2 * f ≤ q.2 ∧ q.2 ≤ 2 * l + 1 := fun hx hm => by
    obtain ⟨i, hi, rfl⟩ := List.mem_map.mp hm
    exact hx i (List.mem_range.mp hi)
  by_cases c1 : ch = true
  · rw [if_pos c1] at hq
    generalize hb : (j + if neg = true then 1 else 0) % 2 = bg at hq
    have hb2 : bg < 2 := by omega
    exact key (fun i hi => ⟨rg_in hf (by omega), rg_in hf (Nat.mod_lt _ (by omega))⟩) hq
  · rw [if_neg c1] at hq
    by_cases c2 : neg = true
    · rw [if_pos c2] at hq
      exact key (fun i hi => ⟨rg_in hf (by omega), rg_in hf (by omega)⟩) hq
    · rw [if_neg c2, List.mem_reverse] at hq
      exact key (fun i hi => ⟨rg_in hf (by omega), rg_in hf (by omega)⟩) hq
theorem steps_in {f l j : Nat} {neg ch : Bool} (hf : f < l) {q : Nat × Nat} (hq : q ∈ stepsN f l neg ch j) : (2 * f ≤ q.1 ∧ q.1 ≤ 2 * l + 1) ∧ 2 * f ≤ q.2 ∧ q.2 ≤ 2 * l + 1 := by
  unfold stepsN at hq
  obtain ⟨t, _, ht⟩ := List.mem_flatMap.mp hq
  exact step_in hf ht
theorem two_in {f l : Nat} {qs : List Nat} (h : ∀ s ∈ qs, f ≤ s ∧ s + 1 ≤ l) {q : Nat × Nat} (hq : q ∈ qs.flatMap two) : (2 * f ≤ q.1 ∧ q.1 ≤ 2 * l + 1) ∧ 2 * f ≤ q.2 ∧ q.2 ≤ 2 * l + 1 := by
  obtain ⟨s, hs, ht⟩ := List.mem_flatMap.mp hq
  have := h s hs
  unfold two at ht
  simp only [List.mem_cons, List.not_mem_nil, or_false] at ht
  rcases ht with rfl | rfl <;> (dsimp only; omega)
theorem in_rng {f l : Int} {x : Nat} (h0 : 0 ≤ f) (h1 : 0 ≤ l) (h : 2 * f.toNat ≤ x ∧ x ≤ 2 * l.toNat + 1) : (x : Int) ∈ (List.range (2 * l + 2 - 2 * f).toNat).map fun (i : Nat) => 2 * f + (i : Int) := by
  refine List.mem_map.mpr ⟨x - 2 * f.toNat, List.mem_range.mpr (by omega), by omega⟩
theorem sw_in {n : Int} {c : Call} (h : c.Ok n) {q : Nat × Nat} (hq : q ∈ c.sw) : (q.1 : Int) ∈ c.tkI ∧ (q.2 : Int) ∈ c.tkI := by
  cases c with
  | ring f l m => simp only [Call.Ok] at h; have := steps_in (f := f.toNat) (l := l.toNat) (by omega) hq; exact ⟨in_rng (by omega) (by omega) this.1, in_rng (by omega) (by omega) this.2⟩
  | chain f l m => simp only [Call.Ok] at h; have := steps_in (f := f.toNat) (l := l.toNat) (by omega) hq; exact ⟨in_rng (by omega) (by omega) this.1, in_rng (by omega) (by omega) this.2⟩
  | cast f l =>
    simp only [Call.Ok] at h
    have := two_in (f := f.toNat) (l := l.toNat) (fun s hs => by obtain ⟨i, hi, rfl⟩ := List.mem_map.mp hs; have := List.mem_range.mp hi; omega) hq
    exact ⟨in_rng (by omega) (by omega) this.1, in_rng (by omega) (by omega) this.2⟩
  | lead f l =>
    simp only [Call.Ok] at h
    have := two_in (f := f.toNat) (l := l.toNat) (fun s hs => by obtain ⟨i, hi, rfl⟩ := List.mem_map.mp (List.mem_reverse.mp hs); have := List.mem_range.mp hi; omega) hq
    exact ⟨in_rng (by omega) (by omega) this.1, in_rng (by omega) (by omega) this.2⟩
  | cross s => simp only [Call.Ok] at h; simp only [Call.sw, List.mem_cons, List.not_mem_nil, or_false] at hq; subst hq; simp only [Call.tkI, List.mem_cons, List.not_mem_nil, or_false]; omega
  | pass s d => simp only [Call.Ok] at h; simp only [Call.sw, List.mem_cons, List.not_mem_nil, or_false] at hq; subst hq; simp only [Call.tkI, List.mem_cons, List.not_mem_nil, or_false]; omega
  | corner s d => simp only [Call.Ok] at h; simp only [Call.sw, List.mem_cons, List.not_mem_nil, or_false] at hq; subst hq; simp only [Call.tkI, List.mem_cons, List.not_mem_nil, or_false]; omega
  | stand m => simp [Call.sw] at hq
def Apart (a b : Call) : Prop := ∀ z ∈ a.tkI, ∀ y ∈ b.tkI, z ≠ y
theorem apart_sw {n : Int} {a b : Call} (ha : a.Ok n) (hb : b.Ok n) (h : Apart a b) : ∀ p ∈ a.sw, ∀ q ∈ b.sw, p.1 ≠ q.1 ∧ p.1 ≠ q.2 ∧ p.2 ≠ q.1 ∧ p.2 ≠ q.2 := fun p hp q hq => by
  obtain ⟨a1, a2⟩ := sw_in ha hp
  obtain ⟨b1, b2⟩ := sw_in hb hq
  have h1 := h _ a1 _ b1
  have h2 := h _ a1 _ b2
  have h3 := h _ a2 _ b1
  have h4 := h _ a2 _ b2
  omega
theorem walk_comm {n : Int} {c : Call} (hc : c.Ok n) : ∀ {cs : List Call} {r : List Nat}, (∀ d ∈ cs, d.Ok n) → (∀ d ∈ cs, Apart c d) → walkN (c.sw.foldl swapN r) cs = c.sw.foldl swapN (walkN r cs)
  | [], _, _, _ => rfl
  | d :: cs, r, ho, ha => by
    rw [walkN_cons, walkN_cons, swaps_comm (apart_sw hc (ho d (by simp)) (ha d (by simp)))]
    exact walk_comm hc (fun x hx => ho x (by simp [hx])) fun x hx => ha x (by simp [hx])
theorem walk_app {r : List Nat} {cs ds : List Call} : walkN r (cs ++ ds) = walkN (walkN r cs) ds := by unfold walkN; rw [List.foldl_append]
theorem walk_rev {n : Int} : ∀ {cs : List Call} {r : List Nat}, (∀ d ∈ cs, d.Ok n) → cs.Pairwise Apart → walkN r cs.reverse = walkN r cs
  | [], _, _, _ => rfl
  | c :: cs, r, ho, hp => by
    rw [List.pairwise_cons] at hp
    rw [List.reverse_cons, walk_app, walk_rev (fun x hx => ho x (by simp [hx])) hp.2]
    show c.sw.foldl swapN (walkN r cs) = walkN (c.sw.foldl swapN r) cs
    rw [walk_comm (ho c (by simp)) (fun x hx => ho x (by simp [hx])) hp.1]
theorem in_ints {z : Int} {ns : List Int} : inV (.int z) (ns.map V.int) = decide (z ∈ ns) := by
  induction ns with
  | nil => rfl
  | cons x r ih =>
    rw [List.map_cons]
    unfold inV at ih ⊢
    rw [List.any_cons, ih]
    rw [Bool.eq_iff_iff]
    have e : eqV (V.int x) (V.int z) = true ↔ z = x := by
      show (x == z) = true ↔ _
      rw [beq_iff_eq]; exact eq_comm
    simp [e]
theorem flat_ints : ∀ {ns : List Int}, (ns.map V.int).all flatV = true
  | [] => rfl
  | n :: r => by rw [List.map_cons, List.all_cons, flat_ints (ns := r)]; rfl
theorem sort_two {ns' : List Int} {a b : Int} (h : a ≤ b) (p : ns'.Perm [a, b]) (s : ns'.Pairwise (· ≤ ·)) : ns' = [a, b] := sorted_eq p s (by simpa using h)
def spLTk : Sp := fun vs H Q _ => ∃ (n : Nat) (v : V) (c : Call), vs = [v] ∧ CallAt H v c ∧ spots n ∧ c.Ok n ∧ ∀ p H', Same H H' → H' p = some (.lst c.takes) → Q (.ref p) H'
theorem rd_ltk {H : Hp} {Q : VK} {E : XK} {n : Nat} {v : V} {c : Call} (h : CallAt H v c) (h1 : spots n) (h2 : c.Ok n) (q : ∀ p H', Same H H' → H' p = some (.lst c.takes) → Q (.ref p) H') : spLTk [v] H Q E := ⟨n, v, c, rfl, h, h1, h2, q⟩
def spLoose : Sp := fun vs H Q _ => ∃ (a : Addr) (ms : List Int) (n : Nat), vs = [.ref a, .int n] ∧ H a = some (.lst (ms.map V.int)) ∧ 17 ≤ ms.length ∧ spots n ∧ ∀ p H' cs, H p = none → Same H H' → Calls n H' p cs → cs ≠ [] → cs.length ≤ 4 → Q (.ref p) H'
theorem rd_loose {H : Hp} {Q : VK} {E : XK} {a : Addr} {ms : List Int} {n : Nat} (ha : H a = some (.lst (ms.map V.int))) (l : 17 ≤ ms.length) (hn : spots n) (q : ∀ p H' cs, H p = none → Same H H' → Calls n H' p cs → cs ≠ [] → cs.length ≤ 4 → Q (.ref p) H') : spLoose [.ref a, .int n] H Q E := ⟨a, ms, n, rfl, ha, l, hn, q⟩
def spLBar : Sp := fun vs H Q _ => ∃ (a : Addr) (ms : List Int) (n : Nat), vs = [.ref a, .int n] ∧ H a = some (.lst (ms.map V.int)) ∧ 17 ≤ ms.length ∧ spots n ∧ ∀ p H' cs, H p = none → Same H H' → Calls n H' p cs → BarOk n cs → Q (.ref p) H'
theorem rd_lbar {H : Hp} {Q : VK} {E : XK} {a : Addr} {ms : List Int} {n : Nat} (ha : H a = some (.lst (ms.map V.int))) (l : 17 ≤ ms.length) (hn : spots n) (q : ∀ p H' cs, H p = none → Same H H' → Calls n H' p cs → BarOk n cs → Q (.ref p) H') : spLBar [.ref a, .int n] H Q E := ⟨a, ms, n, rfl, ha, l, hn, q⟩
theorem any_apart {cs : List Call} {c : Call} (h : (((c.tkI.map fun z => decide (z ∈ cs.flatMap Call.tkI)) : List Bool).any id) = false) : ∀ d ∈ cs, Apart d c := fun d hd z hz y hy e => by
  rw [List.any_eq_false] at h
  refine h (decide (y ∈ cs.flatMap Call.tkI)) (List.mem_map.mpr ⟨y, hy, rfl⟩) ?_
  exact decide_eq_true (List.mem_flatMap.mpr ⟨d, hd, e ▸ hz⟩)
theorem in_map (c : Call) (ns : List Int) : ((List.range (c.tkI.map V.int).length).map fun j => V.bl (decide (c.tkI.getD j 0 ∈ ns))) = (c.tkI.map fun z => decide (z ∈ ns)).map V.bl := by
  refine List.ext_getElem? fun i => ?_
  rw [List.getElem?_map, List.getElem?_map, List.getElem?_map, List.length_map]
  by_cases h : i < c.tkI.length
  · rw [List.getElem?_range h, List.getElem?_eq_getElem h]
    show some (V.bl (decide (c.tkI.getD i 0 ∈ ns))) = _
    rw [List.getD_eq_getElem?_getD, List.getElem?_eq_getElem h]; rfl
  · rw [List.getElem?_eq_none (by rw [List.length_range]; omega), List.getElem?_eq_none (by omega)]; rfl
theorem bar_snoc {n : Nat} {cs : List Call} {c : Call} (hp : cs.Pairwise Apart) (h : ∀ d ∈ cs, Apart d c) : (cs ++ [c]).Pairwise Apart := List.pairwise_append.mpr ⟨hp, by simp, fun a ha b hb => by
  obtain rfl : b = c := by simpa using hb
  exact h a ha⟩
section
variable {P : Program} {w : World} {K : PySem.W.Frag} {mg : Str → Option Value} {base : Heap}
theorem sc__law_takes : FnScope ["_law_call_here"] ["_law_call_here"] (defScope s__law_takes) := ⟨rfl, rfl, rfl, by decide +kernel, rfl, by decide +kernel, by decide +kernel⟩
theorem ok__law_takes {f : Addr} {fd : FuncData} (F : Fun K "_law_takes" "_law_takes" s__law_takes f fd) (T : Txt P w K mg)  (F__law_swaps : FnAt P w K mg base "_law_swaps" 3 spLSw) : FnOk P w K mg base CX0 (3 + 1) f fd ["_law_call_here"] spLTk := by
  refine F.ok sc__law_takes (fun vs H Q E h => ?_) (fun cdv A outer s H vs Q E hr h => ?_)
  · obtain ⟨n, v, c, rfl, _⟩ := h
    rfl
  · obtain ⟨n, v, c, rfl, hca, hns, hok, k⟩ := h
    obtain ⟨a, rfl, ha⟩ := id hca
    have hc := hok
    obtain ⟨n1, n2⟩ := id hns
    refine ⟨_, (pss_cons (ps_if (pt_cmpR op_in_seq (pe_ix ix_tup (pv 0) pe_int (fun _ _ => rfl)) (pe_lst (pa_cons pe_str (pa_cons pe_str (pa_cons pe_str (pa_cons pe_str pa_nil))))) rfl)
      (pss_one (ps_ret (pe_callTy (cl_listR rfl) (by rfl) T.n_list bt_list (pa_cons (pe_callTy cl_rng (by rfl) T.n_range bt_range (pa_cons (pe_op op_mul pe_int (pe_ix ix_tup (pv 0) pe_int (fun _ _ => rfl))) (pa_cons (pe_op op_add (pe_op op_mul pe_int (pe_ix ix_tup (pv 0) pe_int (fun _ _ => rfl))) pe_int) pa_nil))) pa_nil))))
      pss_nil)
      (pss_one (ps_ret (pe_callB cl_sort (by rfl) T.n_sorted bt_sorted (pa_cons (pe_callTy cl_listL (by rfl) T.n_list bt_list (pa_cons (pe_callB (cl_sumT rfl) (by rfl) T.n_sum bt_sum (pa_cons (pe_fn F__law_swaps (hr.mono (by omega)) (pa_cons (pv 0) pa_nil)) (pa_cons (pe_tup pa_nil) pa_nil))) pa_nil)) pa_nil))))), ?_⟩
    cases c with
    | ring fi la m =>
      simp only [Call.word, Call.nums, Call.Ok] at ha hc
      walk_at "rd"
      exact k _ _ (by walk_at "sm") (by assumption)
    | chain fi la m =>
      simp only [Call.word, Call.nums, Call.Ok] at ha hc
      walk_at "rd"
      exact k _ _ (by walk_at "sm") (by assumption)
    | cross sp =>
      simp only [Call.word, Call.nums, Call.Ok] at ha hc
      obtain ⟨s, rfl⟩ := Int.eq_ofNat_of_zero_le hc.1
      walk_at "rd"
      refine rd_lsw (c := .cross (s : Int)) (by walk_at "ca") hns hok fun p2 H2 s2 h2 => ?_
      obtain ⟨ts, e2, q2⟩ := h2
      have q2' : Paired (Pr H2) ts [(2 * s, 2 * s + 1)] := q2
      cases q2' with
      | @cons t _ _ _ r1 r2 =>
        cases r2
        have h2t : H2 t = some (.tup [.int (2 * (s : Int)), .int (2 * (s : Int) + 1)]) := by
          have r1' : H2 t = some (.tup [.int ((2 * s : Nat) : Int), .int ((2 * s + 1 : Nat) : Int)]) := r1
          rw [r1', show ((2 * s : Nat) : Int) = 2 * (s : Int) from by omega, show ((2 * s + 1 : Nat) : Int) = 2 * (s : Int) + 1 from by omega]
        clear r1
        simp only [List.map_cons, List.map_nil] at e2
        walk_at "rd"
        rename_i p4 H4 hp4 s4 h4
        refine i_sort [2 * (s : Int), 2 * (s : Int) + 1] h4 (by show 2 < 64; decide) fun ns' l H5 pm pw _ s5 h5 => ?_
        rw [sort_two (by omega) pm pw] at h5
        exact k _ _ (by walk_at "sm") h5
    | pass sp d =>
      simp only [Call.word, Call.nums, Call.Ok] at ha hc
      obtain ⟨s, rfl⟩ := Int.eq_ofNat_of_zero_le hc.1
      obtain ⟨e, rfl⟩ := Int.eq_ofNat_of_zero_le (show 0 ≤ d by omega)
      walk_at "rd"
      refine rd_lsw (c := .pass (s : Int) (e : Int)) (by walk_at "ca") hns hok fun p2 H2 s2 h2 => ?_
      obtain ⟨ts, e2, q2⟩ := h2
      have q2' : Paired (Pr H2) ts [(2 * s + e, 2 * s + 2 + e)] := q2
      cases q2' with
      | @cons t _ _ _ r1 r2 =>
        cases r2
        have h2t : H2 t = some (.tup [.int (2 * (s : Int) + (e : Int)), .int (2 * (s : Int) + 2 + (e : Int))]) := by
          have r1' : H2 t = some (.tup [.int ((2 * s + e : Nat) : Int), .int ((2 * s + 2 + e : Nat) : Int)]) := r1
          rw [r1', show ((2 * s + e : Nat) : Int) = 2 * (s : Int) + (e : Int) from by omega, show ((2 * s + 2 + e : Nat) : Int) = 2 * (s : Int) + 2 + (e : Int) from by omega]
        clear r1
        simp only [List.map_cons, List.map_nil] at e2
        walk_at "rd"
        rename_i p4 H4 hp4 s4 h4
        refine i_sort [2 * (s : Int) + (e : Int), 2 * (s : Int) + 2 + (e : Int)] h4 (by show 2 < 64; decide) fun ns' l H5 pm pw _ s5 h5 => ?_
        rw [sort_two (by omega) pm pw] at h5
        exact k _ _ (by walk_at "sm") h5
    | corner sp d =>
      simp only [Call.word, Call.nums, Call.Ok] at ha hc
      obtain ⟨s, rfl⟩ := Int.eq_ofNat_of_zero_le hc.1
      obtain ⟨e, rfl⟩ := Int.eq_ofNat_of_zero_le (show 0 ≤ d by omega)
      walk_at "rd"
      refine rd_lsw (c := .corner (s : Int) (e : Int)) (by walk_at "ca") hns hok fun p2 H2 s2 h2 => ?_
      obtain ⟨ts, e2, q2⟩ := h2
      have q2' : Paired (Pr H2) ts [(2 * s + e, 2 * s + 3 - e)] := q2
      cases q2' with
      | @cons t _ _ _ r1 r2 =>
        cases r2
        have h2t : H2 t = some (.tup [.int (2 * (s : Int) + (e : Int)), .int (2 * (s : Int) + 3 - (e : Int))]) := by
          have r1' : H2 t = some (.tup [.int ((2 * s + e : Nat) : Int), .int ((2 * s + 3 - e : Nat) : Int)]) := r1
          rw [r1', show ((2 * s + e : Nat) : Int) = 2 * (s : Int) + (e : Int) from by omega, show ((2 * s + 3 - e : Nat) : Int) = 2 * (s : Int) + 3 - (e : Int) from by omega]
        clear r1
        simp only [List.map_cons, List.map_nil] at e2
        walk_at "rd"
        rename_i p4 H4 hp4 s4 h4
        refine i_sort [2 * (s : Int) + (e : Int), 2 * (s : Int) + 3 - (e : Int)] h4 (by show 2 < 64; decide) fun ns' l H5 pm pw _ s5 h5 => ?_
        rw [sort_two (by omega) pm pw] at h5
        exact k _ _ (by walk_at "sm") h5
    | cast fi la =>
      simp only [Call.word, Call.nums, Call.Ok] at ha hc
      walk_at "rd"
      exact k _ _ (by walk_at "sm") (by assumption)
    | lead fi la =>
      simp only [Call.word, Call.nums, Call.Ok] at ha hc
      walk_at "rd"
      exact k _ _ (by walk_at "sm") (by assumption)
    | stand m =>
      simp only [Call.word, Call.nums, Call.Ok] at ha hc
      walk_at "rd"
      refine rd_lsw (c := .stand m) (by walk_at "ca") hns hok fun p2 H2 s2 h2 => ?_
      obtain ⟨ts, e2, q2⟩ := h2
      have q2' : Paired (Pr H2) ts [] := q2
      cases q2'
      simp only [List.map_nil] at e2
      walk_at "rd"
      rename_i p4 H4 hp4 s4 h4
      refine i_sort [] h4 (by decide) fun ns' l H5 pm _ _ s5 h5 => ?_
      rw [pm.eq_nil] at h5
      exact k _ _ (by walk_at "sm") h5
end

section
variable {P : Program} {w : World} {K : PySem.W.Frag} {mg : Str → Option Value} {base : Heap}
end

section
variable {P : Program} {w : World} {K : PySem.W.Frag} {mg : Str → Option Value} {base : Heap}
theorem sc__law_spots : FnScope ["_law_d"] ["_law_d"] (defScope s__law_spots) := ⟨rfl, rfl, rfl, by decide +kernel, rfl, by decide +kernel, by decide +kernel⟩
theorem ok__law_spots {f : Addr} {fd : FuncData} (F : Fun K "_law_spots" "_law_spots" s__law_spots f fd) (T : Txt P w K mg)   : FnOk P w K mg base CX0 (0 + 1) f fd ["_law_d"] spSpots := by
  refine F.ok sc__law_spots (fun vs H Q E h => ?_) (fun cdv A outer s H vs Q E hr h => ?_)
  · obtain ⟨d, rfl, _⟩ := h
    rfl
  · obtain ⟨d, rfl, k⟩ := h
    refine ⟨_, (pss_one (ps_ret (pe_ix ix_list (pe_lst (pa_cons pe_int (pa_cons pe_int (pa_cons pe_int (pa_cons pe_int (pa_cons pe_int (pa_cons pe_int (pa_cons pe_int pa_nil)))))))) (pe_op op_mod (pv 0) pe_int) (fun _ _ => rfl)))), ?_⟩
    walk_at "rd"
    rename_i p1 H1 hp1 hs1 he1
    refine i_ixAny he1 (by omega) (by show _ < (7 : Int); omega) fun v hv => ?_
    simp only [List.mem_cons, List.not_mem_nil, or_false] at hv
    rcases hv with rfl | rfl | rfl | rfl | rfl | rfl | rfl <;> exact k _ _ ⟨by decide, by decide⟩ hs1
theorem sc__law_call : FnScope ["_law_d", "_law_spots_here", "_law_word", "_law_first", "_law_last", "_law_many"] ["_law_d", "_law_spots_here"] (defScope s__law_call) := ⟨rfl, rfl, rfl, by decide +kernel, rfl, by decide +kernel, by decide +kernel⟩
theorem ok__law_call {f : Addr} {fd : FuncData} (F : Fun K "_law_call" "_law_call" s__law_call f fd) (T : Txt P w K mg)   : FnOk P w K mg base CX0 (0 + 1) f fd ["_law_d", "_law_spots_here"] spMk := by
  refine F.ok sc__law_call (fun vs H Q E h => ?_) (fun cdv A outer s H vs Q E hr h => ?_)
  · obtain ⟨a, ms, s, rfl, _⟩ := h
    rfl
  · obtain ⟨a, ms, s', rfl, ha, hl, hns, k⟩ := h
    refine ⟨_, (pss_cons (ps_set (i := 2) sc__law_call.nd rfl (Or.inl rfl) (pe_ix ix_list (pe_lst (pa_cons pe_str (pa_cons pe_str (pa_cons pe_str (pa_cons pe_str (pa_cons pe_str (pa_cons pe_str (pa_cons pe_str (pa_cons pe_str pa_nil))))))))) (pe_op op_mod (pe_ix ix_list (pv 0) pe_int (fun _ _ => rfl)) pe_int) (fun _ _ => rfl)))
      (pss_cons (ps_set (i := 3) sc__law_call.nd rfl (Or.inl rfl) (pe_op op_mod (pe_ix ix_list (pv 0) pe_int (fun _ _ => rfl)) (pe_op op_sub (pv 1) pe_int)))
      (pss_cons (ps_set (i := 4) sc__law_call.nd rfl (Or.inl rfl) (pe_op op_add (pe_op op_add (pv 3) pe_int) (pe_op op_mod (pe_ix ix_list (pv 0) pe_int (fun _ _ => rfl)) (pe_op op_sub (pe_op op_sub (pv 1) pe_int) (pv 3)))))
      (pss_cons (ps_set (i := 5) sc__law_call.nd rfl (Or.inl rfl) (pe_op op_add pe_int (pe_op op_mod (pe_ix ix_list (pv 0) pe_int (fun _ _ => rfl)) (pe_ix ix_list (pe_lst (pa_cons pe_int (pa_cons pe_int (pa_cons pe_int pa_nil)))) (pe_op op_mod (pe_op op_fdiv (pe_ix ix_list (pv 0) pe_int (fun _ _ => rfl)) pe_int) pe_int) (fun _ _ => rfl)))))
      (pss_cons (ps_if (pt_cmpR op_in_seq (pv 2) (pe_lst (pa_cons pe_str (pa_cons pe_str pa_nil))) rfl)
      (pss_one (ps_ret (pe_tup (pa_cons (pv 2) (pa_cons (pv 3) (pa_cons (pv 4) (pa_cons (pe_op op_mul (pv 5) (pe_ix ix_list (pe_lst (pa_cons pe_int (pa_cons (pe_un un_neg pe_int) pa_nil))) (pe_op op_mod (pe_op op_fdiv (pe_ix ix_list (pv 0) pe_int (fun _ _ => rfl)) pe_int) pe_int) (fun _ _ => rfl))) pa_nil)))))))
      pss_nil)
      (pss_cons (ps_if (pt_cmpR op_eq (pv 2) pe_str (nomark _))
      (pss_one (ps_ret (pe_tup (pa_cons (pv 2) (pa_cons (pe_op op_mod (pe_ix ix_list (pv 0) pe_int (fun _ _ => rfl)) (pv 1)) pa_nil)))))
      pss_nil)
      (pss_cons (ps_if (pt_cmpR op_in_seq (pv 2) (pe_lst (pa_cons pe_str (pa_cons pe_str pa_nil))) rfl)
      (pss_one (ps_ret (pe_tup (pa_cons (pv 2) (pa_cons (pv 3) (pa_cons (pe_op op_mod (pe_ix ix_list (pv 0) pe_int (fun _ _ => rfl)) pe_int) pa_nil))))))
      pss_nil)
      (pss_cons (ps_if (pt_cmpR op_eq (pv 2) pe_str (nomark _))
      (pss_one (ps_ret (pe_tup (pa_cons (pv 2) (pa_cons (pv 5) pa_nil)))))
      pss_nil)
      (pss_one (ps_ret (pe_tup (pa_cons (pv 2) (pa_cons (pv 3) (pa_cons (pv 4) pa_nil)))))))))))))), ?_⟩
    obtain ⟨n1, n2⟩ := id hns
    obtain ⟨m0, m1, m2, m3, rest, rfl⟩ : ∃ m0 m1 m2 m3 rest, ms = m0 :: m1 :: m2 :: m3 :: rest := by
      match ms, hl with
      | m0 :: m1 :: m2 :: m3 :: rest, _ => exact ⟨m0, m1, m2, m3, rest, rfl⟩
    have a0 : atI (List.map V.int (m0 :: m1 :: m2 :: m3 :: rest)) 0 = some (.int m0) := atI_nat (j := 0) rfl
    have a1 : atI (List.map V.int (m0 :: m1 :: m2 :: m3 :: rest)) 1 = some (.int m1) := atI_nat (j := 1) rfl
    have a2 : atI (List.map V.int (m0 :: m1 :: m2 :: m3 :: rest)) 2 = some (.int m2) := atI_nat (j := 2) rfl
    have a3 : atI (List.map V.int (m0 :: m1 :: m2 :: m3 :: rest)) 3 = some (.int m3) := atI_nat (j := 3) rfl
    have f0 : 0 ≤ m1 % (s' - 1) := Int.emod_nonneg _ (by omega)
    have f1 : m1 % (s' - 1) < s' - 1 := Int.emod_lt_of_pos _ (by omega)
    have c0 : 0 ≤ m1 % s' := Int.emod_nonneg _ (by omega)
    have c1 : m1 % s' < s' := Int.emod_lt_of_pos _ (by omega)
    have g0 : 0 ≤ m2 % (s' - 1 - m1 % (s' - 1)) := Int.emod_nonneg _ (by omega)
    have g1 : m2 % (s' - 1 - m1 % (s' - 1)) < s' - 1 - m1 % (s' - 1) := Int.emod_lt_of_pos _ (by omega)
    generalize List.map V.int (m0 :: m1 :: m2 :: m3 :: rest) = L at ha a0 a1 a2 a3
    walk_at "rd"
    rename_i p1 H1 hp1 hs1 he1
    rcases (by omega : m0 % 8 = 0 ∨ m0 % 8 = 1 ∨ m0 % 8 = 2 ∨ m0 % 8 = 3 ∨ m0 % 8 = 4 ∨ m0 % 8 = 5 ∨ m0 % 8 = 6 ∨ m0 % 8 = 7) with h | h | h | h | h | h | h | h
    all_goals
      rw [h]
      walk_at "rd"
      rename_i p2 H2 hp2 hs2 he2
      refine i_ixAny he2 (by omega) (by show _ < (3 : Int); omega) fun v hv => ?_
      simp only [List.mem_cons, List.not_mem_nil, or_false] at hv
      obtain ⟨b, rfl, b0, b1⟩ : ∃ b : Int, v = .int b ∧ 0 < b ∧ b ≤ 64 := by
        rcases hv with rfl | rfl | rfl
        · exact ⟨_, rfl, by decide, by decide⟩
        · exact ⟨_, rfl, by decide, by decide⟩
        · exact ⟨_, rfl, by decide, by decide⟩
      have e0 : 0 ≤ m3 % b := Int.emod_nonneg _ (by omega)
      have e1 : m3 % b < b := Int.emod_lt_of_pos _ b0
      walk_at "rd"
    · rename_i p4 H4 hp4 hs4 he4
      refine i_ixAny he4 (by omega) (by show _ < (2 : Int); omega) fun v hv => ?_
      simp only [List.mem_cons, List.not_mem_nil, or_false] at hv
      rcases hv with rfl | rfl
      · walk_at "rd"
        exact k _ (.ring _ _ _) _ (by walk_at "sm") ⟨_, rfl, by assumption⟩ (by simp only [Call.Ok]; omega)
      · walk_at "rd"
        exact k _ (.ring _ _ _) _ (by walk_at "sm") ⟨_, rfl, by assumption⟩ (by simp only [Call.Ok]; omega)
    · rename_i p4 H4 hp4 hs4 he4
      refine i_ixAny he4 (by omega) (by show _ < (2 : Int); omega) fun v hv => ?_
      simp only [List.mem_cons, List.not_mem_nil, or_false] at hv
      rcases hv with rfl | rfl
      · walk_at "rd"
        exact k _ (.chain _ _ _) _ (by walk_at "sm") ⟨_, rfl, by assumption⟩ (by simp only [Call.Ok]; omega)
      · walk_at "rd"
        exact k _ (.chain _ _ _) _ (by walk_at "sm") ⟨_, rfl, by assumption⟩ (by simp only [Call.Ok]; omega)
    · exact k _ (.cross _) _ (by walk_at "sm") ⟨_, rfl, by assumption⟩ (by simp only [Call.Ok]; omega)
    · exact k _ (.pass _ _) _ (by walk_at "sm") ⟨_, rfl, by assumption⟩ (by simp only [Call.Ok]; omega)
    · exact k _ (.corner _ _) _ (by walk_at "sm") ⟨_, rfl, by assumption⟩ (by simp only [Call.Ok]; omega)
    · exact k _ (.cast _ _) _ (by walk_at "sm") ⟨_, rfl, by assumption⟩ (by simp only [Call.Ok]; omega)
    · exact k _ (.lead _ _) _ (by walk_at "sm") ⟨_, rfl, by assumption⟩ (by simp only [Call.Ok]; omega)
    · exact k _ (.stand _) _ (by walk_at "sm") ⟨_, rfl, by assumption⟩ (by simp only [Call.Ok]; omega)
end

section
variable {P : Program} {w : World} {K : PySem.W.Frag} {mg : Str → Option Value} {base : Heap}
theorem sc__law_loose_bar : FnScope ["_law_d", "_law_spots_here"] ["_law_d", "_law_spots_here"] (defScope s__law_loose_bar) := ⟨rfl, rfl, rfl, by decide +kernel, rfl, by decide +kernel, by decide +kernel⟩
theorem ok__law_loose_bar {f : Addr} {fd : FuncData} (F : Fun K "_law_loose_bar" "_law_loose_bar" s__law_loose_bar f fd) (T : Txt P w K mg)  (F__law_call : FnAt P w K mg base "_law_call" 1 spMk) : FnOk P w K mg base CX0 (1 + 1) f fd ["_law_d", "_law_spots_here"] spLoose := by
  refine F.ok sc__law_loose_bar (fun vs H Q E h => ?_) (fun cdv A outer s H vs Q E hr h => ?_)
  · obtain ⟨a, ms, n, rfl, _⟩ := h
    rfl
  · obtain ⟨a, ms, n, rfl, ha, hl, hn, k⟩ := h
    refine ⟨_, (pss_one (ps_ret (pe_comp (N := ["_law_k", "_law_spots_here", "_law_d"]) (k := 1) (caps := [1, 0]) rfl (compOk_of ["_law_d", "_law_spots_here"] (defScope s__law_loose_bar).names (by decide +kernel)) (pi_range1 rfl T.n_range (pa_cons (pe_op op_add pe_int (pe_op op_mod (pe_ix ix_list (pv 0) pe_int (fun _ _ => rfl)) pe_int)) pa_nil)) (fun _ _ _ _ => (pg_name (i := 0) (show List.Nodup (["_law_k", "_law_spots_here", "_law_d"] : List Str) by decide +kernel) rfl (Or.inl rfl))) (fun _ _ _ _ => pcs_nil) (fun _ _ _ _ => (pe_fn F__law_call (hr.mono (by omega)) (pa_cons (pe_slice (kSl (r := rSlL) (K := K) sl_list rfl) (pv 2) (po_some (pe_op op_add pe_int (pe_op op_mul pe_int (pv 0)))) po_none) (pa_cons (pv 1) pa_nil))))))), ?_⟩
    walk_at "rd"
    refine i_ixAny ha (by omega) (by rw [List.length_map]; omega) fun v hv => ?_
    obtain ⟨z, _, rfl⟩ := List.mem_map.mp hv
    walk_at "rd"
    refine ⟨by omega, by omega, comp_rR (R := CallOk n) (fun _ _ => True) ?_ ?_⟩
    · intro D i own H3 ys as hD hi ho s3 e3 hpr la hG
      obtain ⟨o, rfl⟩ : ∃ o, own = [o] := by
        match own, ho with
        | [o], _ => exact ⟨o, rfl⟩
      have hi' : i < 4 := by omega
      walk_at "rd"
      rename_i p4 H4 hp4 s4 h4
      rw [cut_from ms (by omega)] at h4
      refine rd_mk h4 (by rw [List.length_drop]; omega) hn fun v c H5 s5 hca hok => ?_
      exact yieldR (callStab n) [some (.int (0 + (i : Int)))] (by omega) hi hD s3 e3 hpr la hG (s4.trans s5) ⟨hca, hok⟩ trivial rfl rfl
    intro D H3 ys as hD s3 e3 hpr la hG
    exact k _ _ as hD s3 ⟨ys, e3, hpr⟩ (fun z0 => by rw [z0] at la; simp at la; omega) (by omega)
theorem sc__law_bar : FnScope ["_law_d", "_law_spots_here", "_law_found", "_law_busy", "_law_call_here"] ["_law_d", "_law_spots_here"] (defScope s__law_bar) := ⟨rfl, rfl, rfl, by decide +kernel, rfl, by decide +kernel, by decide +kernel⟩
theorem ok__law_bar {f : Addr} {fd : FuncData} (F : Fun K "_law_bar" "_law_bar" s__law_bar f fd) (T : Txt P w K mg)  (F__law_loose_bar : FnAt P w K mg base "_law_loose_bar" 2 spLoose) (F__law_takes : FnAt P w K mg base "_law_takes" 4 spLTk) : FnOk P w K mg base CX0 (4 + 1) f fd ["_law_d", "_law_spots_here"] spLBar := by
  refine F.ok sc__law_bar (fun vs H Q E h => ?_) (fun cdv A outer s H vs Q E hr h => ?_)
  · obtain ⟨a, ms, n, rfl, _⟩ := h
    rfl
  · obtain ⟨a, ms, n, rfl, ha, hl, hn, k⟩ := h
    refine ⟨_, (pss_cons (ps_set (i := 2) sc__law_bar.nd rfl (Or.inl rfl) (pe_lst pa_nil))
      (pss_cons (ps_set (i := 3) sc__law_bar.nd rfl (Or.inr rfl) (pe_lst pa_nil))
      (pss_cons (ps_for PassesOwn.never rfl (pi_list (pe_fn F__law_loose_bar (hr.mono (by omega)) (pa_cons (pv 0) (pa_cons (pv 1) pa_nil)))) (pg_name (i := 4) sc__law_bar.nd rfl (Or.inl rfl))
      (pss_one (ps_if (pt_not (pt_val (pe_callB (cl_any rfl) (by rfl) T.n_any bt_any (pa_cons (pe_comp (N := ["_law_place", "_law_busy"]) (k := 1) (caps := [3]) rfl (compOk_of ["_law_d", "_law_spots_here", "_law_found", "_law_busy", "_law_call_here"] (defScope s__law_bar).names (by decide +kernel)) (pi_list (pe_fn F__law_takes (hr.mono (by omega)) (pa_cons (pv 4) pa_nil))) (fun _ _ _ _ => (pg_name (i := 0) (show List.Nodup (["_law_place", "_law_busy"] : List Str) by decide +kernel) rfl (Or.inl rfl))) (fun _ _ _ _ => pcs_nil) (fun _ _ _ _ => (pe_cmpR (kOp (r := (fun K => rIn K false)) (K := K) op_in_seq rfl) (pv 0) (pv 1) rfl))) pa_nil))))
      (pss_cons (ps_expr (pe_bm PySem.F.plainAttrs_list PySem.F.slot_list_append PySem.F.type_list_append mt_append (pv 2) (pa_cons (pv 4) pa_nil)))
      (pss_one (ps_set (i := 3) sc__law_bar.nd rfl (Or.inr rfl) (pe_op op_cat (pv 3) (pe_fn F__law_takes (hr.mono (by omega)) (pa_cons (pv 4) pa_nil))))))
      pss_nil)))
      (pss_one (ps_ret (pv 2)))))), ?_⟩
    obtain ⟨n1, n2⟩ := id hn
    walk_at "rd"
    rename_i pf H1 hpf s1 e1 pb0 H2 hpb s2 e2
    have e1' := s2 _ _ e1
    have nbf : pb0 ≠ pf := fun z => by rw [z, e1] at hpb; cases hpb
    refine rd_loose (s2 _ _ (s1 _ _ ha)) hl hn fun pl H3 cs hpl s3 hcs l0 l4 => ?_
    obtain ⟨xs, hxl, hpr⟩ := hcs
    have lx : xs.length = cs.length := hpr.length
    have e3f := s3 _ _ e1'
    have nlf : pl ≠ pf := fun z => by rw [z, e1'] at hpl; cases hpl
    have f0 : H pf = none := hpf
    refine ⟨_, rfl, ⟨_, SqL.of hxl⟩, for_l (xs := xs) (fun i σ H4 => ∃ pb o4 ys ds, σ = [some (.ref a), some (.int n), some (.ref pf), some (.ref pb), o4] ∧ Same H H4 ∧ H4 pl = some (.lst xs) ∧ Paired (CallOk n H4) xs cs ∧ H4 pf = some (.lst ys) ∧ Paired (CallOk n H4) ys ds ∧ pb ≠ pf ∧ H4 pb = some (.lst ((ds.flatMap Call.tkI).map V.int)) ∧ ds.length ≤ i ∧ (0 < i → ds ≠ []) ∧ ds.Pairwise Apart)
      ⟨pb0, _, [], [], rfl, s1.trans (s2.trans s3), hxl, hpr, e3f, .nil, nbf, s3 _ _ e2, Nat.le_refl _, fun z => absurd z (Nat.lt_irrefl _), .nil⟩ (fun i σ H4 _ ⟨_, _, _, _, _, _, z, _⟩ => SqL.of z) ?_ ?_⟩
    · rintro i x σ H4 hx ⟨pb, o4, ys, ds, rfl, s4, h4l, h4x, h4f, h4y, nb, h4b, dl, d0, dp⟩
      have hi : i < xs.length := (List.getElem?_eq_some_iff.mp hx).1
      obtain ⟨v, c, ev, ec, hca, hok⟩ := paired_at h4x hi
      rw [hx] at ev
      cases ev
      have dok : ∀ d ∈ ds, d.Ok n := paired_ok h4y
      have bl := bar_len hn dok
      have tl := tk_len hn hok
      walk_at "rd"
      refine rd_ltk (n := n) hca hn hok fun q5 H5 s5 h5 => ?_
      rw [takes_eq] at h5
      refine ⟨_, rfl, ⟨_, SqL.of h5⟩, comp_lm (fun j => .bl (decide (c.tkI.getD j 0 ∈ ds.flatMap Call.tkI))) h5 ?_ ?_⟩
      · intro D j y own H6 hD hy ho s6 e6
        obtain ⟨o, rfl⟩ : ∃ o, own = [o] := by
          match own, ho with
          | [o], _ => exact ⟨o, rfl⟩
        have hj : j < c.tkI.length := by have := (List.getElem?_eq_some_iff.mp hy).1; rw [List.length_map] at this; exact this
        rw [List.getElem?_map, List.getElem?_eq_getElem hj] at hy
        cases hy
        walk_at "rd"
        refine rd_inL (s6 _ _ (s5 _ _ h4b)) rfl flat_ints ?_
        refine yieldM [some (.int c.tkI[j])] (by rw [List.length_map]; omega) (by rw [List.length_map]; exact hj) hD s6 e6 (by walk_at "sm") ?_ rfl rfl
        show V.bl (inV (.int c.tkI[j]) _) = _
        rw [in_ints, List.getD_eq_getElem?_getD, List.getElem?_eq_getElem hj]; rfl
      intro D H6 hD s6 e6
      rw [in_map] at e6
      walk_at "rd"
      refine i_any _ e6 ?_
      walk_at "rd"
      refine ite2 (fun cc => ?_) (fun cc => ?_)
      · have hap := any_apart (by simpa using cc)
        walk_at "rd"
        have s46 : Same H4 H6 := s5.trans s6
        refine i_app2 (s46 _ _ h4f) (Nat.lt_of_lt_of_le (by rw [h4y.length]; omega : _ < 1000) k1000) fun H7 h7 h7o => ?_
        have keep : ∀ b o, b ≠ pf → H4 b = some o → H7 b = some o := fun b o e z => h7o b o e (s46 _ _ z)
        have ct : ∀ {v : V} {d : Call}, CallOk n H4 v d → CallOk n H7 v d := fun {v d} e => by
          obtain ⟨⟨q, eq, hq⟩, ok⟩ := e
          exact ⟨⟨q, eq, keep q _ (fun z => by rw [z, h4f] at hq; cases hq) hq⟩, ok⟩
        walk_at "rd"
        refine rd_ltk (n := n) (ct ⟨hca, hok⟩).1 hn hok fun q8 H8 s8 h8 => ?_
        rw [takes_eq] at h8
        walk_at "rd"
        refine i_cat (s8 _ _ (keep _ _ nb h4b)) h8 (Nat.le_trans (by rw [List.length_map, List.length_map]; omega : _ ≤ 1000) k1000) fun p9 H9 hp9 s9 h9 => ?_
        walk_at "rd"
        have s79 : Same H7 H9 := s8.trans s9
        refine ⟨p9, _, ys ++ [x], ds ++ [c], rfl, fun b o e => s79 _ _ (keep b o (ne_of_none e f0) (s4 _ _ e)), s79 _ _ (keep _ _ nlf h4l), Paired.mapP h4x fun v d e => (callStab n).mono s79 (ct e), s79 _ _ h7, pr_snoc (Paired.mapP h4y fun v d e => (callStab n).mono s79 (ct e)) ((callStab n).mono s79 (ct ⟨hca, hok⟩)), fun z => ?_, ?_, by rw [List.length_append]; show _ + 1 ≤ _; omega, fun _ z => by simp at z, bar_snoc (n := n) dp hap⟩
        · rw [z, s8 _ _ h7] at hp9; cases hp9
        · rw [h9, List.flatMap_append, List.map_append]; simp
      · walk_at "rd"
        have s46 : Same H4 H6 := s5.trans s6
        refine ⟨pb, _, ys, ds, rfl, s4.trans s46, s46 _ _ h4l, callOk_mono s46 h4x, s46 _ _ h4f, callOk_mono s46 h4y, nb, s46 _ _ h4b, by omega, fun _ z => ?_, dp⟩
        subst z
        exact cc (by simp)
    · rintro σ H4 ⟨pb, o4, ys, ds, rfl, s4, h4l, h4x, h4f, h4y, nb, h4b, dl, d0, dp⟩
      walk_at "rd"
      have lc : 0 < cs.length := List.length_pos_iff.mpr l0
      exact k _ _ ds f0 s4 ⟨ys, h4f, h4y⟩ ⟨d0 (by omega), by omega, paired_ok h4y, dp⟩
end


def BarAt (n : Nat) (H : Hp) (v : V) (cs : List Call) : Prop := (∃ p, v = .ref p ∧ Calls n H p cs) ∧ BarOk n cs
theorem barStab (n : Nat) : Stab (BarAt n) where
  mono := fun s h => by obtain ⟨⟨p, e, hp⟩, r⟩ := h; exact ⟨⟨p, e, hp.same s⟩, r⟩
  rf := fun h => by obtain ⟨⟨p, e, _⟩, _⟩ := h; exact ⟨p, e⟩
  wr := fun {H D ys zs as v cs} hr hD h => by
    obtain ⟨⟨p, e, xs, hp, pr⟩, hb⟩ := h
    have hpD : p ≠ D := fun z => by
      rw [z, hD] at hp
      have exy : ys = xs := HO.lst.inj (Option.some.inj hp)
      subst exy
      cases pr with
      | nil => exact hb.one rfl
      | cons r1 t1 =>
        cases hr with
        | cons r2 t2 =>
          obtain ⟨⟨q, e1, h1⟩, _⟩ := r1
          obtain ⟨⟨q', e2, ys', h2, _⟩, _⟩ := r2
          rw [e1] at e2
          cases e2
          rw [h1] at h2; cases h2
    refine ⟨⟨p, e, xs, by rw [upd_ne hpD]; exact hp, ?_⟩, hb⟩
    refine Paired.mapP pr fun w c q => ?_
    obtain ⟨⟨a, e, ha⟩, ok⟩ := q
    refine ⟨⟨a, e, ?_⟩, ok⟩
    rw [upd_ne (fun z => by rw [z, hD] at ha; cases ha)]; exact ha
def Bars (n : Nat) (H : Hp) (a : Addr) (fs : List (List Call)) : Prop := ∃ xs, H a = some (.lst xs) ∧ Paired (BarAt n H) xs fs
theorem barAt_mono {n : Nat} {H H' : Hp} (s : Same H H') {xs : List V} {fs : List (List Call)} (h : Paired (BarAt n H) xs fs) : Paired (BarAt n H') xs fs := Paired.mapP h fun v c e => (barStab n).mono s e
theorem Bars.same {n : Nat} {H H' : Hp} {a : Addr} {fs : List (List Call)} (h : Bars n H a fs) (s : Same H H') : Bars n H' a fs := by
  obtain ⟨xs, e, p⟩ := h; exact ⟨xs, s _ _ e, barAt_mono s p⟩
theorem bars_ok {n : Nat} {H : Hp} : ∀ {xs : List V} {fs : List (List Call)}, Paired (BarAt n H) xs fs → ∀ cs ∈ fs, BarOk n cs
  | _, _, .nil, c, h => by simp at h
  | _, _, .cons r t, c, h => by
    rcases List.mem_cons.mp h with e | e
    · rw [e]; exact r.2
    · exact bars_ok t c e
def barN (n : Nat) (cs : List Call) : List Nat := rowN n (cs.map (Call.way n))
theorem barN_perm {n : Nat} {cs : List Call} (hn : spots n) (h : ∀ c ∈ cs, c.Ok n) : (barN n cs).Perm (stillN n) := rowN_perm (List.Perm.refl _) fun w hw => by
  obtain ⟨c, hc, rfl⟩ := List.mem_map.mp hw
  exact way_perm hn (h c hc)
def mxB (cs : List Call) : Int := ((cs.map Call.beats).max?).getD 0
theorem mx_eq {cs : List Call} {M : Int} (h1 : M ∈ cs.map Call.beats) (h2 : ∀ x ∈ cs.map Call.beats, x ≤ M) : M = mxB cs := by
  unfold mxB
  rw [(List.max?_eq_some_iff).mpr ⟨h1, h2⟩]; rfl
def spLookFig : Sp := fun vs H Q _ => ∃ (n : Nat) (a : Addr) (fs : List (List Call)), vs = [.int n, .ref a] ∧ spots n ∧ Bars n H a fs ∧ fs.length ≤ 16 ∧ ∀ H', Same H H' → Q .non H'
theorem rd_lookfig {H : Hp} {Q : VK} {E : XK} {n : Nat} {a : Addr} {fs : List (List Call)} (hn : spots n) (h : Bars n H a fs) (hl : fs.length ≤ 16) (q : ∀ H', Same H H' → Q .non H') : spLookFig [.int n, .ref a] H Q E := ⟨n, a, fs, rfl, hn, h, hl, q⟩
def spFigWay : Sp := fun vs H Q _ => ∃ (n : Nat) (a : Addr) (fs : List (List Call)), vs = [.int n, .ref a] ∧ spots n ∧ Bars n H a fs ∧ fs.length ≤ 16 ∧ ∀ p H', Same H H' → H' p = some (.lst (natV (rowN n (fs.map (barN n))))) → Q (.ref p) H'
theorem rd_figway {H : Hp} {Q : VK} {E : XK} {n : Nat} {a : Addr} {fs : List (List Call)} (hn : spots n) (h : Bars n H a fs) (hl : fs.length ≤ 16) (q : ∀ p H', Same H H' → H' p = some (.lst (natV (rowN n (fs.map (barN n))))) → Q (.ref p) H') : spFigWay [.int n, .ref a] H Q E := ⟨n, a, fs, rfl, hn, h, hl, q⟩
def spFigBeats : Sp := fun vs H Q _ => ∃ (n : Nat) (a : Addr) (fs : List (List Call)), vs = [.int n, .ref a] ∧ spots n ∧ Bars n H a fs ∧ fs.length ≤ 16 ∧ ∀ H', Same H H' → Q (.int (fs.map mxB).sum) H'
theorem rd_figbeats {H : Hp} {Q : VK} {E : XK} {n : Nat} {a : Addr} {fs : List (List Call)} (hn : spots n) (h : Bars n H a fs) (hl : fs.length ≤ 16) (q : ∀ H', Same H H' → Q (.int (fs.map mxB).sum) H') : spFigBeats [.int n, .ref a] H Q E := ⟨n, a, fs, rfl, hn, h, hl, q⟩
theorem map_ix {α β : Type} (f : α → β) (d : β) (fs : List α) : ((List.range fs.length).map fun i => ((fs[i]?).map f).getD d) = fs.map f := by
  refine List.ext_getElem? fun i => ?_
  rw [List.getElem?_map, List.getElem?_map]
  by_cases c : i < fs.length
  · rw [List.getElem?_range c]
    show some (((fs[i]?).map f).getD d) = _
    rw [List.getElem?_eq_getElem c]; rfl
  · rw [List.getElem?_eq_none (by rw [List.length_range]; omega), List.getElem?_eq_none (by omega)]; rfl
theorem mx_map (fs : List (List Call)) : ((List.range fs.length).map fun i => V.int (((fs[i]?).map mxB).getD 0)) = (fs.map mxB).map V.int := by
  rw [← map_ix mxB 0 fs, List.map_map]; rfl
theorem then_assoc {n : Nat} {u v w : List Nat} (hu : u.Perm (stillN n)) (hv : v.Perm (stillN n)) : thenN (thenN u v) w = thenN u (thenN v w) := by
  unfold thenN
  rw [List.map_map]
  refine List.map_congr_left fun z hz => ?_
  have := perm_lt hu hz
  have := perm_len hv
  show w.getD (v.getD z 0) 0 = _
  rw [getD_map (by omega)]
theorem then_still {n : Nat} {u : List Nat} (hu : u.Perm (stillN n)) : thenN u (stillN n) = u := by
  unfold thenN
  have := List.map_congr_left (l := u) (f := fun z => (stillN n).getD z 0) (g := id) fun z hz => by
    have := perm_lt hu hz
    unfold stillN
    rw [List.getD_eq_getElem?_getD, List.getElem?_range this]; rfl
  rw [this, List.map_id]
theorem then_fold {n : Nat} {u : List Nat} (hu : u.Perm (stillN n)) : ∀ {ws : List (List Nat)} {v : List Nat}, v.Perm (stillN n) → (∀ w ∈ ws, w.Perm (stillN n)) → thenN u (ws.foldl thenN v) = ws.foldl thenN (thenN u v)
  | [], _, _, _ => rfl
  | w :: ws, v, hv, h => by
    rw [List.foldl_cons, List.foldl_cons, then_fold hu (thenN_perm hv (h w (by simp))) (fun x hx => h x (by simp [hx])), then_assoc hu hv]
theorem fig_fold {n : Nat} (hn : spots n) : ∀ {fs : List (List Call)} {u : List Nat}, u.Perm (stillN n) → (∀ cs ∈ fs, ∀ c ∈ cs, c.Ok n) → (fs.map (barN n)).foldl thenN u = (fs.flatten.map (Call.way n)).foldl thenN u
  | [], _, _, _ => rfl
  | cs :: fs, u, hu, h => by
    have hw : ∀ w ∈ cs.map (Call.way n), w.Perm (stillN n) := fun w hw => by
      obtain ⟨c, hc, rfl⟩ := List.mem_map.mp hw
      exact way_perm hn (h cs (by simp) c hc)
    have e : thenN u (barN n cs) = (cs.map (Call.way n)).foldl thenN u := by
      unfold barN rowN
      rw [then_fold hu (List.Perm.refl _) hw, then_still hu]
    rw [List.map_cons, List.foldl_cons, e, List.flatten_cons, List.map_append, List.foldl_append]
    exact fig_fold hn (rowN_perm hu hw) fun x hx => h x (by simp [hx])
theorem fig_way_eq {n : Nat} {fs : List (List Call)} (hn : spots n) (h : ∀ cs ∈ fs, BarOk n cs) : rowN n (fs.map (barN n)) = wayL n fs.flatten := by
  rw [← row_way_eq hn (fun c hc => by obtain ⟨cs, h1, h2⟩ := List.mem_flatten.mp hc; exact (h cs h1).ok c h2)]
  exact fig_fold hn (List.Perm.refl _) fun cs hc c h2 => (h cs hc).ok c h2
section
variable {P : Program} {w : World} {K : PySem.W.Frag} {mg : Str → Option Value} {base : Heap}
theorem sc_look_figure : FnScope ["spots", "figure", "bar"] ["spots", "figure"] (defScope s_look_figure) := ⟨rfl, rfl, rfl, by decide +kernel, rfl, by decide +kernel, by decide +kernel⟩
theorem ok_look_figure {f : Addr} {fd : FuncData} (F : Fun K "look_figure" "look_figure" s_look_figure f fd) (T : Txt P w K mg)  (F_look_spots : FnAt P w K mg base "look_spots" 1 spLook) (F_look_bar : FnAt P w K mg base "look_bar" 5 spLookBar) : FnOk P w K mg base CX0 (5 + 1) f fd ["spots", "figure"] spLookFig := by
  refine F.ok sc_look_figure (fun vs H Q E h => ?_) (fun cdv A outer s H vs Q E hr h => ?_)
  · obtain ⟨n, a, fs, rfl, _⟩ := h
    rfl
  · obtain ⟨n, a, fs, rfl, hn, hfs, hl, k⟩ := h
    refine ⟨_, (pss_cons (ps_expr (pe_fn F_look_spots (hr.mono (by omega)) (pa_cons (pv 0) pa_nil)))
      (pss_cons (ps_if (pt_cmpR op_gt (pe_callB cl_len (by rfl) T.n_len PySem.boot_len (pa_cons (pv 1) pa_nil)) (pe_globI T.c_MOST_BARS) (nomark _))
      (pss_one ps_never)
      pss_nil)
      (pss_one (ps_for PassesOwn.never rfl (pi_list (pv 1)) (pg_name (i := 2) sc_look_figure.nd rfl (Or.inl rfl))
      (pss_one (ps_expr (pe_fn F_look_bar (hr.mono (by omega)) (pa_cons (pv 0) (pa_cons (pv 2) pa_nil))))))))), ?_⟩
    obtain ⟨n1, n2⟩ := id hn
    obtain ⟨xs, ha, hp⟩ := hfs
    have lx : xs.length = fs.length := hp.length
    walk_at "rd"
    refine ⟨_, rfl, ⟨_, SqL.of ha⟩, for_l (xs := xs) (fun i σ H3 => ∃ o2, σ = [some (.int n), some (.ref a), o2] ∧ Same H H3) ⟨_, rfl, Same.refl _⟩ (fun i σ H3 _ ⟨_, _, s3⟩ => SqL.of (s3 _ _ ha)) ?_ ?_⟩
    · rintro i x σ H3 hx ⟨o2, rfl, s3⟩
      have hi : i < xs.length := (List.getElem?_eq_some_iff.mp hx).1
      obtain ⟨v, cs, ev, ec, hba⟩ := paired_at hp hi
      rw [hx] at ev
      cases ev
      obtain ⟨⟨q, rfl, hq⟩, hb⟩ := (barStab n).mono s3 hba
      walk_at "rd"
      refine rd_lookbar hn hq hb fun H4 s4 => ?_
      exact ⟨_, rfl, s3.trans s4⟩
    · rintro σ H3 ⟨o2, rfl, s3⟩
      walk_at "rd"
      exact k _ s3
theorem sc_figure_way : FnScope ["spots", "figure"] ["spots", "figure"] (defScope s_figure_way) := ⟨rfl, rfl, rfl, by decide +kernel, rfl, by decide +kernel, by decide +kernel⟩
theorem ok_figure_way {f : Addr} {fd : FuncData} (F : Fun K "figure_way" "figure_way" s_figure_way f fd) (T : Txt P w K mg)  (F_look_figure : FnAt P w K mg base "look_figure" 6 spLookFig) (F_bar_way : FnAt P w K mg base "bar_way" 6 spBarWay) (F_row_way : FnAt P w K mg base "row_way" 3 spRow) : FnOk P w K mg base CX0 (6 + 1) f fd ["spots", "figure"] spFigWay := by
  refine F.ok sc_figure_way (fun vs H Q E h => ?_) (fun cdv A outer s H vs Q E hr h => ?_)
  · obtain ⟨n, a, fs, rfl, _⟩ := h
    rfl
  · obtain ⟨n, a, fs, rfl, hn, hfs, hl, k⟩ := h
    refine ⟨_, (pss_cons (ps_expr (pe_fn F_look_figure (hr.mono (by omega)) (pa_cons (pv 0) (pa_cons (pv 1) pa_nil))))
      (pss_one (ps_ret (pe_fn F_row_way (hr.mono (by omega)) (pa_cons (pv 0) (pa_cons (pe_comp (N := ["bar", "spots"]) (k := 1) (caps := [0]) rfl (compOk_of ["spots", "figure"] (defScope s_figure_way).names (by decide +kernel)) (pi_list (pv 1)) (fun _ _ _ _ => (pg_name (i := 0) (show List.Nodup (["bar", "spots"] : List Str) by decide +kernel) rfl (Or.inl rfl))) (fun _ _ _ _ => pcs_nil) (fun _ _ _ _ => (pe_fn F_bar_way (hr.mono (by omega)) (pa_cons (pv 1) (pa_cons (pv 0) pa_nil))))) pa_nil)))))), ?_⟩
    obtain ⟨n1, n2⟩ := id hn
    walk_at "rd"
    refine rd_lookfig hn hfs hl fun H1 s1 => ?_
    obtain ⟨xs, ha, hp⟩ := hfs.same s1
    have lx : xs.length = fs.length := hp.length
    walk_at "rd"
    refine ⟨_, rfl, ⟨_, SqL.of ha⟩, comp_lR (R := WayAt n) (fun j w => w = (((fs[j]?).map (barN n)).getD [])) ha ?_ ?_⟩
    · intro D i x own H3 ys as hD hx ho s3 e3 hpr la hG
      obtain ⟨o, rfl⟩ : ∃ o, own = [o] := by
        match own, ho with
        | [o], _ => exact ⟨o, rfl⟩
      have hi : i < xs.length := (List.getElem?_eq_some_iff.mp hx).1
      obtain ⟨v, cs, ev, ec, hba⟩ := paired_at hp hi
      rw [hx] at ev
      cases ev
      obtain ⟨⟨q, rfl, hq⟩, hb⟩ := (barStab n).mono s3 hba
      walk_at "rd"
      refine rd_barway hn hq hb fun q4 H4 s4 h4 => ?_
      exact yieldR (wayStab n) [some (.ref q)] (by omega) hi hD s3 e3 hpr la hG s4 ⟨⟨q4, rfl, h4⟩, barN_perm hn hb.ok, by omega⟩ (by rw [ec]; rfl) rfl rfl
    intro D H3 ys as hD s3 e3 hpr la hG
    have ea : as = fs.map (barN n) := by rw [as_map la hG, lx, map_ix]
    rw [ea] at hpr
    walk_at "rd"
    refine rd_row hn e3 hpr fun p4 H4 s4 h4 => ?_
    exact k _ _ (s1.trans (s3.trans s4)) h4
theorem sc_figure_beats : FnScope ["spots", "figure"] ["spots", "figure"] (defScope s_figure_beats) := ⟨rfl, rfl, rfl, by decide +kernel, rfl, by decide +kernel, by decide +kernel⟩
theorem ok_figure_beats {f : Addr} {fd : FuncData} (F : Fun K "figure_beats" "figure_beats" s_figure_beats f fd) (T : Txt P w K mg)  (F_look_figure : FnAt P w K mg base "look_figure" 6 spLookFig) (F_bar_beats : FnAt P w K mg base "bar_beats" 6 spBarBeats) : FnOk P w K mg base CX0 (6 + 1) f fd ["spots", "figure"] spFigBeats := by
  refine F.ok sc_figure_beats (fun vs H Q E h => ?_) (fun cdv A outer s H vs Q E hr h => ?_)
  · obtain ⟨n, a, fs, rfl, _⟩ := h
    rfl
  · obtain ⟨n, a, fs, rfl, hn, hfs, hl, k⟩ := h
    refine ⟨_, (pss_cons (ps_expr (pe_fn F_look_figure (hr.mono (by omega)) (pa_cons (pv 0) (pa_cons (pv 1) pa_nil))))
      (pss_one (ps_ret (pe_callB (cl_sumL rfl) (by rfl) T.n_sum bt_sum (pa_cons (pe_comp (N := ["bar", "spots"]) (k := 1) (caps := [0]) rfl (compOk_of ["spots", "figure"] (defScope s_figure_beats).names (by decide +kernel)) (pi_list (pv 1)) (fun _ _ _ _ => (pg_name (i := 0) (show List.Nodup (["bar", "spots"] : List Str) by decide +kernel) rfl (Or.inl rfl))) (fun _ _ _ _ => pcs_nil) (fun _ _ _ _ => (pe_fn F_bar_beats (hr.mono (by omega)) (pa_cons (pv 1) (pa_cons (pv 0) pa_nil))))) pa_nil))))), ?_⟩
    obtain ⟨n1, n2⟩ := id hn
    walk_at "rd"
    refine rd_lookfig hn hfs hl fun H1 s1 => ?_
    obtain ⟨xs, ha, hp⟩ := hfs.same s1
    have lx : xs.length = fs.length := hp.length
    walk_at "rd"
    refine ⟨_, rfl, ⟨_, SqL.of ha⟩, comp_lm (fun i => .int (((fs[i]?).map mxB).getD 0)) ha ?_ ?_⟩
    · intro D i x own H3 hD hx ho s3 e3
      obtain ⟨o, rfl⟩ : ∃ o, own = [o] := by
        match own, ho with
        | [o], _ => exact ⟨o, rfl⟩
      have hi : i < xs.length := (List.getElem?_eq_some_iff.mp hx).1
      obtain ⟨v, cs, ev, ec, hba⟩ := paired_at hp hi
      rw [hx] at ev
      cases ev
      obtain ⟨⟨q, rfl, hq⟩, hb⟩ := (barStab n).mono s3 hba
      walk_at "rd"
      refine rd_barbeats hn hq hb fun M H4 s4 m1 m2 => ?_
      exact yieldM [some (.ref q)] (by omega) hi hD s3 e3 s4 (by rw [ec, mx_eq m1 m2]; rfl) rfl rfl
    intro D H3 hD s3 e3
    rw [lx, mx_map] at e3
    walk_at "rd"
    refine i_sumL _ e3 ?_
    exact k _ (s1.trans s3)
end


def spLFig : Sp := fun vs H Q _ => ∃ (a : Addr) (ms : List Int) (n m : Nat), vs = [.ref a, .int n, .int m] ∧ H a = some (.lst (ms.map V.int)) ∧ m ≤ 16 ∧ 1 + 17 * m ≤ ms.length ∧ spots n ∧ ∀ p H' fs, H p = none → Same H H' → Bars n H' p fs → fs.length ≤ m → Q (.ref p) H'
theorem rd_lfig {H : Hp} {Q : VK} {E : XK} {a : Addr} {ms : List Int} {n m : Nat} (ha : H a = some (.lst (ms.map V.int))) (hm : m ≤ 16) (l : 1 + 17 * m ≤ ms.length) (hn : spots n) (q : ∀ p H' fs, H p = none → Same H H' → Bars n H' p fs → fs.length ≤ m → Q (.ref p) H') : spLFig [.ref a, .int n, .int m] H Q E := ⟨a, ms, n, m, rfl, ha, hm, l, hn, q⟩
section
variable {P : Program} {w : World} {K : PySem.W.Frag} {mg : Str → Option Value} {base : Heap}
theorem sc__law_figure : FnScope ["_law_d", "_law_spots_here", "_law_most"] ["_law_d", "_law_spots_here", "_law_most"] (defScope s__law_figure) := ⟨rfl, rfl, rfl, by decide +kernel, rfl, by decide +kernel, by decide +kernel⟩
theorem ok__law_figure {f : Addr} {fd : FuncData} (F : Fun K "_law_figure" "_law_figure" s__law_figure f fd) (T : Txt P w K mg)  (F__law_bar : FnAt P w K mg base "_law_bar" 5 spLBar) : FnOk P w K mg base CX0 (5 + 1) f fd ["_law_d", "_law_spots_here", "_law_most"] spLFig := by
  refine F.ok sc__law_figure (fun vs H Q E h => ?_) (fun cdv A outer s H vs Q E hr h => ?_)
  · obtain ⟨a, ms, n, m, rfl, _⟩ := h
    rfl
  · obtain ⟨a, ms, n, m, rfl, ha, hm, hl, hn, k⟩ := h
    refine ⟨_, (pss_one (ps_ret (pe_comp (N := ["_law_k", "_law_spots_here", "_law_d"]) (k := 1) (caps := [1, 0]) rfl (compOk_of ["_law_d", "_law_spots_here", "_law_most"] (defScope s__law_figure).names (by decide +kernel)) (pi_range1 rfl T.n_range (pa_cons (pe_op op_mod (pe_ix ix_list (pv 0) pe_int (fun _ _ => rfl)) (pe_op op_add (pv 2) pe_int)) pa_nil)) (fun _ _ _ _ => (pg_name (i := 0) (show List.Nodup (["_law_k", "_law_spots_here", "_law_d"] : List Str) by decide +kernel) rfl (Or.inl rfl))) (fun _ _ _ _ => pcs_nil) (fun _ _ _ _ => (pe_fn F__law_bar (hr.mono (by omega)) (pa_cons (pe_slice (kSl (r := rSlL) (K := K) sl_list rfl) (pv 2) (po_some (pe_op op_add pe_int (pe_op op_mul pe_int (pv 0)))) po_none) (pa_cons (pv 1) pa_nil))))))), ?_⟩
    walk_at "rd"
    refine i_ixAny ha (by omega) (by rw [List.length_map]; omega) fun v hv => ?_
    obtain ⟨z, _, rfl⟩ := List.mem_map.mp hv
    have z0 : 0 ≤ z % ((m : Int) + 1) := Int.emod_nonneg _ (by omega)
    have z1 : z % ((m : Int) + 1) < (m : Int) + 1 := Int.emod_lt_of_pos _ (by omega)
    walk_at "rd"
    refine ⟨by omega, by omega, comp_rR (R := BarAt n) (fun _ _ => True) ?_ ?_⟩
    · intro D i own H3 ys as hD hi ho s3 e3 hpr la hG
      obtain ⟨o, rfl⟩ : ∃ o, own = [o] := by
        match own, ho with
        | [o], _ => exact ⟨o, rfl⟩
      have hi' : i < m := by omega
      walk_at "rd"
      rename_i p4 H4 hp4 s4 h4
      rw [cut_from ms (by omega)] at h4
      refine rd_lbar h4 (by rw [List.length_drop]; omega) hn fun p5 H5 cs hp5 s5 hcs hb => ?_
      exact yieldR (barStab n) [some (.int (0 + (i : Int)))] (by omega) hi hD s3 e3 hpr la hG (s4.trans s5) ⟨⟨p5, rfl, hcs⟩, hb⟩ trivial rfl rfl
    intro D H3 ys as hD s3 e3 hpr la hG
    exact k _ _ as hD s3 ⟨ys, e3, hpr⟩ (by omega)
end


def Call.back : Call → Call
  | .ring f l m => .ring f l (-m)
  | .chain f l m => if m % 2 = 0 then .chain f l (-m) else .chain f l m
  | .cast f l => .lead f l
  | .lead f l => .cast f l
  | c => c
theorem back_ok {c : Call} {n : Int} (h : c.Ok n) : c.back.Ok n := by
  cases c with
  | ring f l m => simp only [Call.Ok, Call.back] at h ⊢; omega
  | chain f l m =>
    unfold Call.back
    by_cases e : m % 2 = 0
    · simp only [e, if_true, Call.Ok] at h ⊢; omega
    · simp only [e, if_false, Call.Ok] at h ⊢; omega
  | cast f l => exact h
  | lead f l => exact h
  | cross s => exact h
  | pass s d => exact h
  | corner s d => exact h
  | stand m => exact h
def spTurn : Sp := fun vs H Q _ => ∃ (n : Int) (v : V) (c : Call), vs = [.int n, v] ∧ CallAt H v c ∧ spots n ∧ c.Ok n ∧ ∀ v' H', Same H H' → CallAt H' v' c.back → Q v' H'
theorem rd_turn {H : Hp} {Q : VK} {E : XK} {n : Int} {v : V} {c : Call} (h : CallAt H v c) (h1 : spots n) (h2 : c.Ok n) (q : ∀ v' H', Same H H' → CallAt H' v' c.back → Q v' H') : spTurn [.int n, v] H Q E := ⟨n, v, c, rfl, h, h1, h2, q⟩
theorem st_mod {n f l : Nat} {neg ch : Bool} (hn : n < 7) (hl : l < n) (hf : f < l) (k : Nat) : st n f l neg ch k = st n f l neg ch (k % (2 * (l - f + 1))) := by
  have es := st_mul (neg := neg) (ch := ch) hn hl hf (k % (2 * (l - f + 1))) (k / (2 * (l - f + 1)))
  rwa [Nat.mod_add_div] at es
theorem hom_b : ((List.range 7).all fun n => (List.range n).all fun l => (List.range l).all fun f => [true, false].all fun neg => [true, false].all fun ch => (List.range (2 * (l - f + 1))).all fun k => (!ch || k % 2 == 0) == false || ((st n f l (!neg) ch k).map fun z => (st n f l neg ch k).getD z 0) == stillN n) = true := by decide +kernel
theorem hom_s : ((List.range 7).all fun n => (List.range n).all fun l => (List.range l).all fun f => [true, false].all fun neg => (List.range (2 * (l - f + 1))).all fun k => (k % 2 == 0) || ((st n f l neg true k).map fun z => (st n f l neg true k).getD z 0) == stillN n) = true := by decide +kernel
theorem hom_x : ((List.range 7).all fun n => (List.range n).all fun s => [(2 * s, 2 * s + 1), (2 * s, 2 * s + 1)].foldl swapN (stillN n) == stillN n) = true := by decide +kernel
theorem hom_p : ((List.range 7).all fun n => (List.range (n - 1)).all fun s => (List.range 2).all fun e => [(2 * s + e, 2 * s + 2 + e), (2 * s + e, 2 * s + 2 + e)].foldl swapN (stillN n) == stillN n && [(2 * s + e, 2 * s + 3 - e), (2 * s + e, 2 * s + 3 - e)].foldl swapN (stillN n) == stillN n) = true := by decide +kernel
theorem hom_c : ((List.range 7).all fun n => (List.range n).all fun l => (List.range l).all fun f => (((List.range (l - f)).map fun i => f + i).reverse.flatMap two).foldl swapN ((((List.range (l - f)).map fun i => f + i).flatMap two).foldl swapN (stillN n)) == stillN n && (((List.range (l - f)).map fun i => f + i).flatMap two).foldl swapN ((((List.range (l - f)).map fun i => f + i).reverse.flatMap two).foldl swapN (stillN n)) == stillN n) = true := by decide +kernel
theorem st_len {n f l k : Nat} {neg ch : Bool} : (st n f l neg ch k).length = 2 * n := by unfold st; rw [swaps_len]; unfold stillN; simp
theorem hom_ring {n f l k : Nat} {neg ch : Bool} (hn : n < 7) (hl : l < n) (hf : f < l) (hk : ch = true → k % 2 = 0) : (stepsN f l (!neg) ch k).foldl swapN (st n f l neg ch k) = stillN n := by
  rw [behind st_len fun q hq => steps_lt hf hl hq]
  show (st n f l (!neg) ch k).map _ = _
  rw [st_mod (neg := !neg) hn hl hf k, st_mod (neg := neg) hn hl hf k]
  have kl : k % (2 * (l - f + 1)) < 2 * (l - f + 1) := Nat.mod_lt _ (by omega)
  have h := List.all_eq_true.mp (List.all_eq_true.mp (List.all_eq_true.mp (List.all_eq_true.mp (List.all_eq_true.mp (List.all_eq_true.mp hom_b n (List.mem_range.mpr hn)) l (List.mem_range.mpr hl)) f (List.mem_range.mpr hf)) neg (by cases neg <;> simp)) ch (by cases ch <;> simp)) (k % (2 * (l - f + 1))) (List.mem_range.mpr kl)
  have c : (!ch || k % (2 * (l - f + 1)) % 2 == 0) = true := by
    cases ch with
    | false => rfl
    | true =>
      have := hk rfl
      rw [Nat.mod_mul_right_mod, this]; rfl
  rw [c] at h
  exact eq_of_beq h
theorem hom_same {n f l k : Nat} {neg : Bool} (hn : n < 7) (hl : l < n) (hf : f < l) (hk : k % 2 = 1) : (stepsN f l neg true k).foldl swapN (st n f l neg true k) = stillN n := by
  rw [behind st_len fun q hq => steps_lt hf hl hq]
  show (st n f l neg true k).map _ = _
  rw [st_mod (neg := neg) hn hl hf k]
  have kl : k % (2 * (l - f + 1)) < 2 * (l - f + 1) := Nat.mod_lt _ (by omega)
  have h := List.all_eq_true.mp (List.all_eq_true.mp (List.all_eq_true.mp (List.all_eq_true.mp (List.all_eq_true.mp hom_s n (List.mem_range.mpr hn)) l (List.mem_range.mpr hl)) f (List.mem_range.mpr hf)) neg (by cases neg <;> simp)) (k % (2 * (l - f + 1))) (List.mem_range.mpr kl)
  have c : (k % (2 * (l - f + 1)) % 2 == 0) = false := by rw [Nat.mod_mul_right_mod, hk]; rfl
  rw [c] at h
  exact eq_of_beq h
theorem neg_dec {m : Int} (h : m ≠ 0) : decide (-m < 0) = !decide (m < 0) := by
  by_cases c : m < 0
  · rw [decide_eq_true c, decide_eq_false (by omega)]; rfl
  · rw [decide_eq_false c, decide_eq_true (by omega)]; rfl
theorem home_eq {n : Nat} {c : Call} (hn : spots n) (h : c.Ok n) : c.back.sw.foldl swapN (c.sw.foldl swapN (stillN n)) = stillN n := by
  obtain ⟨n1, n2⟩ := hn
  have n7 : n < 7 := by omega
  cases c with
  | ring f l m =>
    simp only [Call.Ok] at h
    show (stepsN f.toNat l.toNat (decide (-m < 0)) false (-m).natAbs).foldl swapN (st n f.toNat l.toNat (decide (m < 0)) false m.natAbs) = _
    rw [neg_dec (by omega), Int.natAbs_neg]
    exact hom_ring n7 (by omega) (by omega) (fun z => by cases z)
  | chain f l m =>
    simp only [Call.Ok] at h
    have bk : Call.back (.chain f l m) = if m % 2 = 0 then .chain f l (-m) else .chain f l m := rfl
    rw [bk]
    by_cases e : m % 2 = 0
    · rw [if_pos e]
      show (stepsN f.toNat l.toNat (decide (-m < 0)) true (-m).natAbs).foldl swapN (st n f.toNat l.toNat (decide (m < 0)) true m.natAbs) = _
      rw [neg_dec (by omega), Int.natAbs_neg]
      exact hom_ring n7 (by omega) (by omega) (fun _ => by omega)
    · rw [if_neg e]
      show (stepsN f.toNat l.toNat (decide (m < 0)) true m.natAbs).foldl swapN (st n f.toNat l.toNat (decide (m < 0)) true m.natAbs) = _
      exact hom_same n7 (by omega) (by omega) (by omega)
  | cross s =>
    simp only [Call.Ok] at h
    exact eq_of_beq (List.all_eq_true.mp (List.all_eq_true.mp hom_x n (List.mem_range.mpr n7)) s.toNat (List.mem_range.mpr (by omega)))
  | pass s d =>
    simp only [Call.Ok] at h
    have q := List.all_eq_true.mp (List.all_eq_true.mp (List.all_eq_true.mp hom_p n (List.mem_range.mpr n7)) s.toNat (List.mem_range.mpr (by omega))) d.toNat (List.mem_range.mpr (by omega))
    rw [Bool.and_eq_true] at q
    exact eq_of_beq q.1
  | corner s d =>
    simp only [Call.Ok] at h
    have q := List.all_eq_true.mp (List.all_eq_true.mp (List.all_eq_true.mp hom_p n (List.mem_range.mpr n7)) s.toNat (List.mem_range.mpr (by omega))) d.toNat (List.mem_range.mpr (by omega))
    rw [Bool.and_eq_true] at q
    exact eq_of_beq q.2
  | cast f l =>
    simp only [Call.Ok] at h
    have q := List.all_eq_true.mp (List.all_eq_true.mp (List.all_eq_true.mp hom_c n (List.mem_range.mpr n7)) l.toNat (List.mem_range.mpr (by omega))) f.toNat (List.mem_range.mpr (by omega))
    rw [Bool.and_eq_true] at q
    exact eq_of_beq q.1
  | lead f l =>
    simp only [Call.Ok] at h
    have q := List.all_eq_true.mp (List.all_eq_true.mp (List.all_eq_true.mp hom_c n (List.mem_range.mpr n7)) l.toNat (List.mem_range.mpr (by omega))) f.toNat (List.mem_range.mpr (by omega))
    rw [Bool.and_eq_true] at q
    exact eq_of_beq q.2
  | stand m => rfl
theorem back_beats {c : Call} {n : Int} (h : c.Ok n) : c.back.beats = c.beats := by
  cases c with
  | ring f l m => simp only [Call.Ok] at h; simp only [Call.back, Call.beats]; split <;> split <;> omega
  | chain f l m =>
    simp only [Call.Ok] at h
    have bk : Call.back (.chain f l m) = if m % 2 = 0 then .chain f l (-m) else .chain f l m := rfl
    rw [bk]
    by_cases e : m % 2 = 0
    · rw [if_pos e]; simp only [Call.beats]; split <;> split <;> omega
    · rw [if_neg e]
  | _ => rfl
theorem back_tk {c : Call} : c.back.tkI = c.tkI := by
  cases c with
  | chain f l m =>
    have bk : Call.back (.chain f l m) = if m % 2 = 0 then .chain f l (-m) else .chain f l m := rfl
    rw [bk]
    by_cases e : m % 2 = 0
    · rw [if_pos e]; rfl
    · rw [if_neg e]
  | _ => rfl
theorem back_back {c : Call} : c.back.back = c := by
  cases c with
  | ring f l m => show Call.ring f l (- -m) = _; rw [Int.neg_neg]
  | chain f l m =>
    have bk : ∀ m, Call.back (.chain f l m) = if m % 2 = 0 then .chain f l (-m) else .chain f l m := fun _ => rfl
    rw [bk]
    by_cases e : m % 2 = 0
    · rw [if_pos e, bk, if_pos (by omega), Int.neg_neg]
    · rw [if_neg e, bk, if_neg e]
  | _ => rfl
def bkB (cs : List Call) : List Call := cs.map Call.back
def bkF (fs : List (List Call)) : List (List Call) := fs.reverse.map bkB
theorem bkB_ok {n : Int} {cs : List Call} (h : BarOk n cs) : BarOk n (bkB cs) := by
  refine ⟨fun z => h.one (List.map_eq_nil_iff.mp z), by unfold bkB; rw [List.length_map]; exact h.four, fun c hc => ?_, ?_⟩
  · obtain ⟨d, hd, rfl⟩ := List.mem_map.mp hc
    exact back_ok (h.ok d hd)
  · unfold bkB
    rw [List.pairwise_map]
    exact h.apart.imp fun {a b} hab => by rw [back_tk, back_tk]; exact hab
theorem bkF_ok {n : Int} {fs : List (List Call)} (h : ∀ cs ∈ fs, BarOk n cs) : ∀ cs ∈ bkF fs, BarOk n cs := fun cs hc => by
  obtain ⟨ds, hd, rfl⟩ := List.mem_map.mp hc
  exact bkB_ok (h ds (List.mem_reverse.mp hd))
theorem bkF_bkF {fs : List (List Call)} : bkF (bkF fs) = fs := by
  have key : ∀ cs : List Call, bkB (bkB cs) = cs := fun cs => by
    unfold bkB
    rw [List.map_map]
    have := List.map_congr_left (l := cs) (f := Call.back ∘ Call.back) (g := id) fun c _ => back_back
    rw [this, List.map_id]
  unfold bkF
  rw [← List.map_reverse, List.reverse_reverse, List.map_map]
  have := List.map_congr_left (l := fs) (f := bkB ∘ bkB) (g := id) fun cs _ => key cs
  rw [this, List.map_id]
theorem home_r {n : Nat} {c : Call} {r : List Nat} (hn : spots n) (h : c.Ok n) (hl : r.length = 2 * n) : c.back.sw.foldl swapN (c.sw.foldl swapN r) = r := by
  have e := behind (n := n) (r := r) (sw := c.sw ++ c.back.sw) hl (fun q hq => by
    rcases List.mem_append.mp hq with z | z
    · exact sw_lt hn h z
    · exact sw_lt hn (back_ok h) z)
  rw [List.foldl_append, List.foldl_append, home_eq hn h, ← self_map hl] at e
  exact e
theorem rev_home {n : Nat} (hn : spots n) : ∀ {cs : List Call} {r : List Nat}, (∀ c ∈ cs, c.Ok n) → r.length = 2 * n → walkN (walkN r cs.reverse) (bkB cs) = r
  | [], _, _, _ => rfl
  | c :: t, r, h, hl => by
    have l2 : (walkN r t.reverse).length = 2 * n := by rw [walkN_len, hl]
    rw [List.reverse_cons, walk_app]
    show walkN (c.back.sw.foldl swapN (c.sw.foldl swapN (walkN r t.reverse))) (bkB t) = r
    rw [home_r hn (h c (by simp)) l2]
    exact rev_home hn (fun d hd => h d (by simp [hd])) hl
theorem bar_home {n : Nat} {cs : List Call} {r : List Nat} (hn : spots n) (h : BarOk n cs) (hl : r.length = 2 * n) : walkN (walkN r cs) (bkB cs) = r := by
  rw [← walk_rev (r := r) h.ok h.apart]
  exact rev_home hn h.ok hl
theorem fig_home {n : Nat} (hn : spots n) : ∀ {fs : List (List Call)} {r : List Nat}, (∀ cs ∈ fs, BarOk n cs) → r.length = 2 * n → walkN (walkN r fs.flatten) (bkF fs).flatten = r
  | [], _, _, _ => rfl
  | cs :: t, r, h, hl => by
    have l2 : (walkN r cs).length = 2 * n := by rw [walkN_len, hl]
    have eb : (bkF (cs :: t)).flatten = (bkF t).flatten ++ bkB cs := by
      unfold bkF
      rw [List.reverse_cons, List.map_append, List.flatten_append]
      simp
    rw [List.flatten_cons, walk_app, eb, walk_app, fig_home hn (fun d hd => h d (by simp [hd])) l2]
    exact bar_home hn (h cs (by simp)) hl
def figN (n : Nat) (fs : List (List Call)) : List Nat := rowN n (fs.map (barN n))
theorem barN_perm' {n : Nat} {fs : List (List Call)} (hn : spots n) (h : ∀ cs ∈ fs, BarOk n cs) : ∀ w ∈ fs.map (barN n), w.Perm (stillN n) := fun w hw => by
  obtain ⟨cs, hc, rfl⟩ := List.mem_map.mp hw
  exact barN_perm hn (h cs hc).ok
theorem figN_perm {n : Nat} {fs : List (List Call)} (hn : spots n) (h : ∀ cs ∈ fs, BarOk n cs) : (figN n fs).Perm (stillN n) := rowN_perm (List.Perm.refl _) (barN_perm' hn h)
theorem figN_app {n : Nat} {fs gs : List (List Call)} (hn : spots n) (h : ∀ cs ∈ fs, BarOk n cs) (h2 : ∀ cs ∈ gs, BarOk n cs) : figN n (fs ++ gs) = thenN (figN n fs) (figN n gs) := by
  have hp := figN_perm hn h
  unfold figN rowN at hp ⊢
  rw [List.map_append, List.foldl_append, then_fold hp (List.Perm.refl _) (barN_perm' hn h2), then_still hp]
theorem figN_home {n : Nat} {fs : List (List Call)} (hn : spots n) (h : ∀ cs ∈ fs, BarOk n cs) : figN n (fs ++ bkF fs) = stillN n := by
  have e : figN n (fs ++ bkF fs) = wayL n (fs ++ bkF fs).flatten := fig_way_eq hn fun cs hc => by
    rcases List.mem_append.mp hc with z | z
    · exact h cs z
    · exact bkF_ok h cs z
  rw [e]
  unfold wayL
  rw [List.flatten_append, walk_app, fig_home hn h (still_len n)]
  exact inv_still n
theorem undo_at {n : Nat} {w : List Nat} (hw : w.Perm (stillN n)) : ∀ (j i : Nat), i < j → j ≤ 2 * n → (undoN n w j)[w.getD i 0]? = some i
  | j + 1, i, hi, hj => by
    have lw := perm_len hw
    have nd : w.Nodup := hw.nodup_iff.mpr List.nodup_range
    have gd : ∀ k, k < 2 * n → ∃ q, w[k]? = some q ∧ q < 2 * n := fun k hk => ⟨w[k], List.getElem?_eq_getElem (by omega), perm_lt hw (List.getElem_mem _)⟩
    have step : undoN n w (j + 1) = (undoN n w j).set (w.getD j 0) j := by unfold undoN; rw [List.range_succ, List.foldl_append]; rfl
    rw [step]
    obtain ⟨q, hq, ql⟩ := gd j (by omega)
    obtain ⟨q', hq', ql'⟩ := gd i (by omega)
    have e1 : w.getD j 0 = q := by rw [List.getD_eq_getElem?_getD, hq]; rfl
    have e2 : w.getD i 0 = q' := by rw [List.getD_eq_getElem?_getD, hq']; rfl
    by_cases c : i = j
    · subst c
      rw [List.getElem?_set_self (by rw [undoN_len, e1]; exact ql)]
    · have nq : w.getD j 0 ≠ w.getD i 0 := fun z => by
        rw [e1, e2] at z
        obtain ⟨a1, b1⟩ := List.getElem?_eq_some_iff.mp hq
        obtain ⟨a2, b2⟩ := List.getElem?_eq_some_iff.mp hq'
        exact c ((List.getElem_inj nd).mp (b2.trans (z.symm.trans b1.symm)))
      rw [List.getElem?_set_ne nq]
      exact undo_at hw j i (by omega) (by omega)
theorem undo_eq {n : Nat} {w v : List Nat} (hw : w.Perm (stillN n)) (hv : v.Perm (stillN n)) (h : thenN w v = stillN n) : undoN n w w.length = v := by
  have lw := perm_len hw
  have lv := perm_len hv
  refine List.ext_getElem? fun p => ?_
  by_cases c : p < 2 * n
  · have mp : p ∈ w := hw.mem_iff.mpr (by unfold stillN; exact List.mem_range.mpr c)
    obtain ⟨i, hi, e⟩ := List.mem_iff_getElem.mp mp
    have gi : w.getD i 0 = p := by rw [List.getD_eq_getElem?_getD, List.getElem?_eq_getElem hi, e]; rfl
    have u := undo_at hw w.length i hi (by omega)
    rw [gi] at u
    rw [u]
    have t : (thenN w v)[i]? = (stillN n)[i]? := by rw [h]
    unfold thenN stillN at t
    rw [List.getElem?_map, List.getElem?_eq_getElem hi, List.getElem?_range (by omega), e] at t
    have t' : v.getD p 0 = i := Option.some.inj t
    rw [← t', List.getD_eq_getElem?_getD, List.getElem?_eq_getElem (by omega)]; rfl
  · rw [List.getElem?_eq_none (by rw [undoN_len]; omega), List.getElem?_eq_none (by omega)]
theorem mx_back {n : Int} {cs : List Call} (h : ∀ c ∈ cs, c.Ok n) : mxB (bkB cs) = mxB cs := by
  unfold mxB bkB
  rw [List.map_map, List.map_congr_left (f := Call.beats ∘ Call.back) (g := Call.beats) fun c hc => back_beats (h c hc)]
theorem sum_back {n : Int} {fs : List (List Call)} (h : ∀ cs ∈ fs, BarOk n cs) : ((bkF fs).map mxB).sum = (fs.map mxB).sum := by
  unfold bkF
  rw [List.map_map, List.map_congr_left (f := mxB ∘ bkB) (g := mxB) fun cs hc => mx_back (h cs (List.mem_reverse.mp hc)).ok, List.map_reverse, List.sum_reverse]
def spTurned : Sp := fun vs H Q _ => ∃ (n : Nat) (a : Addr) (fs : List (List Call)), vs = [.int n, .ref a] ∧ spots n ∧ Bars n H a fs ∧ fs.length ≤ 16 ∧ ∀ p H', H p = none → Same H H' → Bars n H' p (bkF fs) → Q (.ref p) H'
theorem rd_turned {H : Hp} {Q : VK} {E : XK} {n : Nat} {a : Addr} {fs : List (List Call)} (hn : spots n) (h : Bars n H a fs) (hl : fs.length ≤ 16) (q : ∀ p H', H p = none → Same H H' → Bars n H' p (bkF fs) → Q (.ref p) H') : spTurned [.int n, .ref a] H Q E := ⟨n, a, fs, rfl, hn, h, hl, q⟩
theorem bars_cat {n : Nat} {H : Hp} {Q : VK} {a b : Addr} {fs gs : List (List Call)} (h1 : Bars n H a fs) (h2 : Bars n H b gs) (l : fs.length + gs.length ≤ 1000) (q : ∀ p H', H p = none → Same H H' → Bars n H' p (fs ++ gs) → Q (.ref p) H') : rCat (.ref a) (.ref b) H Q := by
  obtain ⟨xs, ha, p1⟩ := h1
  obtain ⟨ys, hb, p2⟩ := h2
  exact i_cat ha hb (Nat.le_trans (by rw [p1.length, p2.length]; exact l) k1000) fun p H' hp s h => q p H' hp s ⟨xs ++ ys, h, pr_app (barAt_mono s p1) (barAt_mono s p2)⟩
theorem natV_int (w : List Nat) : natV w = (w.map fun (q : Nat) => (q : Int)).map V.int := by unfold natV; rw [List.map_map]; rfl

local macro_rules | `(tactic| walk_at "rd1") => `(tactic| with_reducible refine i_compV ?_)
section
variable {P : Program} {w : World} {K : PySem.W.Frag} {mg : Str → Option Value} {base : Heap}
theorem sc_turned_call : FnScope ["spots", "call", "word"] ["spots", "call"] (defScope s_turned_call) := ⟨rfl, rfl, rfl, by decide +kernel, rfl, by decide +kernel, by decide +kernel⟩
theorem ok_turned_call {f : Addr} {fd : FuncData} (F : Fun K "turned_call" "turned_call" s_turned_call f fd) (T : Txt P w K mg)  (F_look_call : FnAt P w K mg base "look_call" 3 spCall) : FnOk P w K mg base CX0 (3 + 1) f fd ["spots", "call"] spTurn := by
  refine F.ok sc_turned_call (fun vs H Q E h => ?_) (fun cdv A outer s H vs Q E hr h => ?_)
  · obtain ⟨n, v, c, rfl, _⟩ := h
    rfl
  · obtain ⟨n, v, c, rfl, hca, hns, hok, k⟩ := h
    refine ⟨_, (pss_cons (ps_expr (pe_fn F_look_call (hr.mono (by omega)) (pa_cons (pv 0) (pa_cons (pv 1) pa_nil))))
      (pss_cons (ps_set (i := 2) sc_turned_call.nd rfl (Or.inl rfl) (pe_ix ix_tup (pv 1) pe_int (fun _ _ => rfl)))
      (pss_cons (ps_if (pt_cmpR op_eq (pv 2) pe_str (nomark _))
      (pss_one (ps_ret (pe_tup (pa_cons pe_str (pa_cons (pe_ix ix_tup (pv 1) pe_int (fun _ _ => rfl)) (pa_cons (pe_ix ix_tup (pv 1) pe_int (fun _ _ => rfl)) pa_nil))))))
      pss_nil)
      (pss_cons (ps_if (pt_cmpR op_eq (pv 2) pe_str (nomark _))
      (pss_one (ps_ret (pe_tup (pa_cons pe_str (pa_cons (pe_ix ix_tup (pv 1) pe_int (fun _ _ => rfl)) (pa_cons (pe_ix ix_tup (pv 1) pe_int (fun _ _ => rfl)) pa_nil))))))
      pss_nil)
      (pss_cons (ps_if ((pw_or (pt_cmpR op_eq (pv 2) pe_str (nomark _)) (pw_or1 ((pw_and (pt_cmpR op_eq (pv 2) pe_str (nomark _)) (pw_and1 (pt_cmpR op_eq (pe_op op_mod (pe_ix ix_tup (pv 1) pe_int (fun _ _ => rfl)) pe_int) pe_int (nomark _))))).pt))).pt
      (pss_one (ps_ret (pe_tup (pa_cons (pv 2) (pa_cons (pe_ix ix_tup (pv 1) pe_int (fun _ _ => rfl)) (pa_cons (pe_ix ix_tup (pv 1) pe_int (fun _ _ => rfl)) (pa_cons (pe_un un_neg (pe_ix ix_tup (pv 1) pe_int (fun _ _ => rfl))) pa_nil)))))))
      pss_nil)
      (pss_one (ps_ret (pv 1)))))))), ?_⟩
    obtain ⟨a, rfl, ha⟩ := id hca
    have hc := hok
    obtain ⟨n1, n2⟩ := id hns
    cases c with
    | ring fi la m =>
      simp only [Call.word, Call.nums, Call.Ok] at ha hc
      walk_at "rd"
      exact k _ _ (by walk_at "sm") ⟨_, rfl, by walk_at "hp"⟩
    | chain fi la m =>
      simp only [Call.word, Call.nums, Call.Ok] at ha hc
      walk_at "rd"
      refine ite2 (fun cc => ?_) (fun cc => ?_)
      · have c1 : m % 2 = 0 := V.int.inj (of_decide_eq_true cc)
        walk_at "rd"
        refine k _ _ (by walk_at "sm") ⟨_, rfl, ?_⟩
        simp only [Call.back, c1, if_true, Call.word, Call.nums]
        walk_at "hp"
      · have c1 : ¬ m % 2 = 0 := fun z => cc (decide_eq_true (congrArg V.int z))
        walk_at "rd"
        refine k _ _ (by walk_at "sm") ⟨_, rfl, ?_⟩
        simp only [Call.back, c1, if_false, Call.word, Call.nums]
        walk_at "hp"
    | cross sp =>
      simp only [Call.word, Call.nums, Call.Ok] at ha hc
      walk_at "rd"
      exact k _ _ (by walk_at "sm") (by walk_at "ca")
    | pass sp d =>
      simp only [Call.word, Call.nums, Call.Ok] at ha hc
      walk_at "rd"
      exact k _ _ (by walk_at "sm") (by walk_at "ca")
    | corner sp d =>
      simp only [Call.word, Call.nums, Call.Ok] at ha hc
      walk_at "rd"
      exact k _ _ (by walk_at "sm") (by walk_at "ca")
    | cast fi la =>
      simp only [Call.word, Call.nums, Call.Ok] at ha hc
      walk_at "rd"
      exact k _ _ (by walk_at "sm") ⟨_, rfl, by walk_at "hp"⟩
    | lead fi la =>
      simp only [Call.word, Call.nums, Call.Ok] at ha hc
      walk_at "rd"
      exact k _ _ (by walk_at "sm") ⟨_, rfl, by walk_at "hp"⟩
    | stand m =>
      simp only [Call.word, Call.nums, Call.Ok] at ha hc
      walk_at "rd"
      exact k _ _ (by walk_at "sm") (by walk_at "ca")
theorem sc_turned : FnScope ["spots", "figure"] ["spots", "figure"] (defScope s_turned) := ⟨rfl, rfl, rfl, by decide +kernel, rfl, by decide +kernel, by decide +kernel⟩
theorem ok_turned {f : Addr} {fd : FuncData} (F : Fun K "turned" "turned" s_turned f fd) (T : Txt P w K mg)  (F_look_figure : FnAt P w K mg base "look_figure" 6 spLookFig) (F_turned_call : FnAt P w K mg base "turned_call" 4 spTurn) : FnOk P w K mg base CX0 (6 + 1) f fd ["spots", "figure"] spTurned := by
  refine F.ok sc_turned (fun vs H Q E h => ?_) (fun cdv A outer s H vs Q E hr h => ?_)
  · obtain ⟨n, a, fs, rfl, _⟩ := h
    rfl
  · obtain ⟨n, a, fs, rfl, hn, hfs, hl, k⟩ := h
    refine ⟨_, (pss_cons (ps_expr (pe_fn F_look_figure (hr.mono (by omega)) (pa_cons (pv 0) (pa_cons (pv 1) pa_nil))))
      (pss_one (ps_ret (pe_comp (N := ["bar", "spots"]) (k := 1) (caps := [0]) rfl (compOk_of ["spots", "figure"] (defScope s_turned).names (by decide +kernel)) (pi_rev rfl T.n_reversed (pa_cons (pv 1) pa_nil)) (fun _ _ _ _ => (pg_name (i := 0) (show List.Nodup (["bar", "spots"] : List Str) by decide +kernel) rfl (Or.inl rfl))) (fun _ _ _ _ => pcs_nil) (fun _ _ _ _ => (pe_comp (N := ["call", "spots"]) (k := 1) (caps := [1]) rfl (compOk_of ["bar", "spots"] [(Str.ofString ".0", NameKind.local), (Str.ofString "bar", NameKind.local), (Str.ofString "spots", NameKind.cell)] (by decide +kernel)) (pi_listK (K := K) rfl (pv 0)) (fun _ _ _ _ => (pg_name (i := 0) (show List.Nodup (["call", "spots"] : List Str) by decide +kernel) rfl (Or.inl rfl))) (fun _ _ _ _ => pcs_nil) (fun _ _ _ _ => (pe_fn F_turned_call (hr.mono (by omega)) (pa_cons (pv 1) (pa_cons (pv 0) pa_nil)))))))))), ?_⟩
    obtain ⟨n1, n2⟩ := id hn
    walk_at "rd"
    refine rd_lookfig hn hfs hl fun H1 s1 => ?_
    obtain ⟨xs, ha, hp⟩ := hfs.same s1
    have lx : xs.length = fs.length := hp.length
    have hp' := pr_rev hp
    walk_at "rd"
    refine ⟨_, _, rfl, SqL.of ha, comp_vR (R := BarAt n) (fun j w => w = (((fs.reverse[j]?).map bkB).getD [])) ha ?_ ?_⟩
    · intro D i x own H3 ys as hD hi hx ho s3 e3 hpr la hG
      obtain ⟨o, rfl⟩ : ∃ o, own = [o] := by
        match own, ho with
        | [o], _ => exact ⟨o, rfl⟩
      obtain ⟨v, cs, ev, ec, hba⟩ := paired_at hp' (by rw [List.length_reverse]; exact hi)
      rw [hx] at ev
      cases ev
      obtain ⟨⟨q, rfl, zs, hq, hz⟩, hb⟩ := (barStab n).mono s3 hba
      have lz : zs.length = cs.length := hz.length
      have l4 := hb.four
      walk_at "rd"
      refine ⟨_, rfl, ⟨_, SqL.of hq⟩, comp_lR (R := CallOk n) (fun j w => w = (((cs[j]?).map Call.back).getD (.stand 1))) hq ?_ ?_⟩
      · intro D' j x own H4 ys' as' hD' hx ho s4 e4 hpr' la' hG'
        obtain ⟨o', rfl⟩ : ∃ o, own = [o] := by
          match own, ho with
          | [o], _ => exact ⟨o, rfl⟩
        have hj : j < zs.length := (List.getElem?_eq_some_iff.mp hx).1
        obtain ⟨v, c, ev, ec', hca, hok'⟩ := paired_at hz hj
        rw [hx] at ev
        cases ev
        walk_at "rd"
        refine rd_turn (c := c) (hca.same s4) hn hok' fun v5 H5 s5 h5 => ?_
        exact yieldR (callStab n) [some x] (by omega) hj hD' s4 e4 hpr' la' hG' s5 ⟨h5, back_ok hok'⟩ (by rw [ec']; rfl) rfl rfl
      intro D' H4 ys' as' hD' s4 e4 hpr' la' hG'
      have ea : as' = bkB cs := by
        rw [as_map la' hG', lz]
        exact map_ix Call.back (.stand 1) cs
      rw [ea] at hpr'
      exact yieldR (barStab n) [some (.ref q)] (by omega) hi hD s3 e3 hpr la hG s4 ⟨⟨D', rfl, ys', e4, hpr'⟩, bkB_ok hb⟩ (by rw [ec]; rfl) rfl rfl
    intro D H3 ys as hD s3 e3 hpr la hG
    have ea : as = bkF fs := by
      rw [as_map la hG, lx, ← List.length_reverse, map_ix bkB [] fs.reverse]
      rfl
    rw [ea] at hpr
    exact k _ _ (s1.free hD) (s1.trans s3) ⟨ys, e3, hpr⟩
end

def spLaw (K : PySem.W.Frag) : Sp := fun vs H Q _ => ∃ (a : Addr) (ns : List Int), vs = [.ref a] ∧ SqL K H a (ns.map V.int) ∧ ns.length ≤ 63 ∧ ∀ H', Q (.bl true) H'
section
variable {P : Program} {w : World} {K : PySem.W.Frag} {mg : Str → Option Value} {base : Heap}
theorem sc_law : FnScope ["_law_script", "_law_numbers_here", "_law_spots_here", "_law_one", "_law_other", "_law_way", "_law_back"] ["_law_script"] (defScope s_law) := ⟨rfl, rfl, rfl, by decide +kernel, rfl, by decide +kernel, by decide +kernel⟩
theorem ok_law {f : Addr} {fd : FuncData} (F : Fun K "law" "law" s_law f fd) (T : Txt P w K mg)  (F__law_numbers : FnAt P w K mg base "_law_numbers" 1 (spNum K)) (F__law_spots : FnAt P w K mg base "_law_spots" 1 spSpots) (F__law_figure : FnAt P w K mg base "_law_figure" 6 spLFig) (F_figure_way : FnAt P w K mg base "figure_way" 7 spFigWay) (F_turned : FnAt P w K mg base "turned" 7 spTurned) (F_undone : FnAt P w K mg base "undone" 3 spUndone) (F_still : FnAt P w K mg base "still" 2 spStill) (F_then : FnAt P w K mg base "then" 2 spThen) (F_figure_beats : FnAt P w K mg base "figure_beats" 7 spFigBeats) (F__law_same : FnAt P w K mg base "_law_same" 3 (spSame 3)) : FnOk P w K mg base CX0 (7 + 1) f fd ["_law_script"] (spLaw K) := by
  refine F.ok sc_law (fun vs H Q E h => ?_) (fun cdv A outer s H vs Q E hr h => ?_)
  · obtain ⟨a, ns, rfl, _⟩ := h
    rfl
  · obtain ⟨a, ns, rfl, hS, hl, k⟩ := h
    refine ⟨_, (pss_cons (ps_set (i := 1) sc_law.nd rfl (Or.inl rfl) (pe_fn F__law_numbers (hr.mono (by omega)) (pa_cons (pv 0) (pa_cons pe_int pa_nil))))
      (pss_cons (ps_set (i := 2) sc_law.nd rfl (Or.inl rfl) (pe_fn F__law_spots (hr.mono (by omega)) (pa_cons (pe_ix ix_list (pv 1) pe_int (fun _ _ => rfl)) pa_nil)))
      (pss_cons (ps_set (i := 3) sc_law.nd rfl (Or.inl rfl) (pe_fn F__law_figure (hr.mono (by omega)) (pa_cons (pe_slice sl_list (pv 1) (po_some pe_int) po_none) (pa_cons (pv 2) (pa_cons pe_int pa_nil)))))
      (pss_cons (ps_set (i := 4) sc_law.nd rfl (Or.inl rfl) (pe_fn F__law_figure (hr.mono (by omega)) (pa_cons (pe_slice sl_list (pv 1) (po_some pe_int) po_none) (pa_cons (pv 2) (pa_cons pe_int pa_nil)))))
      (pss_cons (ps_set (i := 5) sc_law.nd rfl (Or.inl rfl) (pe_fn F_figure_way (hr.mono (by omega)) (pa_cons (pv 2) (pa_cons (pv 3) pa_nil))))
      (pss_cons (ps_set (i := 6) sc_law.nd rfl (Or.inl rfl) (pe_fn F_turned (hr.mono (by omega)) (pa_cons (pv 2) (pa_cons (pv 3) pa_nil))))
      (pss_cons (ps_if ((pw_or (pt_cmpR (op_neL hr.units) (pe_callB cl_sort (by rfl) T.n_sorted bt_sorted (pa_cons (pv 5) pa_nil)) (pe_callTy (cl_listR rfl) (by rfl) T.n_list bt_list (pa_cons (pe_callTy cl_rng (by rfl) T.n_range bt_range (pa_cons (pe_op op_mul pe_int (pv 2)) pa_nil)) pa_nil)) (nomark _)) (pw_or1 (pt_cmpR (op_neL hr.units) (pe_fn F_figure_way (hr.mono (by omega)) (pa_cons (pv 2) (pa_cons (pv 6) pa_nil))) (pe_fn F_undone (hr.mono (by omega)) (pa_cons (pv 2) (pa_cons (pv 5) pa_nil))) (nomark _))))).pt
      (pss_one (ps_ret pe_bl))
      pss_nil)
      (pss_cons (ps_if ((pw_or (pt_cmpR (op_neL hr.units) (pe_fn F_figure_way (hr.mono (by omega)) (pa_cons (pv 2) (pa_cons (pe_op op_cat (pv 3) (pv 6)) pa_nil))) (pe_fn F_still (hr.mono (by omega)) (pa_cons (pv 2) pa_nil)) (nomark _)) (pw_or1 (pt_cmpR (op_neL hr.units) (pe_fn F_figure_way (hr.mono (by omega)) (pa_cons (pv 2) (pa_cons (pe_op op_cat (pv 6) (pv 3)) pa_nil))) (pe_fn F_still (hr.mono (by omega)) (pa_cons (pv 2) pa_nil)) (nomark _))))).pt
      (pss_one (ps_ret pe_bl))
      pss_nil)
      (pss_cons (ps_if (pt_cmpR op_ne (pe_fn F_figure_beats (hr.mono (by omega)) (pa_cons (pv 2) (pa_cons (pe_op op_cat (pv 3) (pv 6)) pa_nil))) (pe_op op_mul pe_int (pe_fn F_figure_beats (hr.mono (by omega)) (pa_cons (pv 2) (pa_cons (pv 3) pa_nil)))) (nomark _))
      (pss_one (ps_ret pe_bl))
      pss_nil)
      (pss_cons (ps_if (pt_not (pt_val (pe_fn F__law_same (hr.mono (by omega)) (pa_cons (pe_fn F_figure_way (hr.mono (by omega)) (pa_cons (pv 2) (pa_cons (pe_op op_cat (pv 3) (pv 4)) pa_nil))) (pa_cons (pe_fn F_then (hr.mono (by omega)) (pa_cons (pv 2) (pa_cons (pv 5) (pa_cons (pe_fn F_figure_way (hr.mono (by omega)) (pa_cons (pv 2) (pa_cons (pv 4) pa_nil))) pa_nil)))) pa_nil)))))
      (pss_one (ps_ret pe_bl))
      pss_nil)
      (pss_one (ps_ret (pe_cmpR op_eq (pe_fn F_figure_beats (hr.mono (by omega)) (pa_cons (pv 2) (pa_cons (pe_op op_cat (pv 3) (pv 4)) pa_nil))) (pe_op op_add (pe_fn F_figure_beats (hr.mono (by omega)) (pa_cons (pv 2) (pa_cons (pv 3) pa_nil))) (pe_fn F_figure_beats (hr.mono (by omega)) (pa_cons (pv 2) (pa_cons (pv 4) pa_nil)))) (nomark _)))))))))))))), ?_⟩
    walk_at "rd"
    refine rd_num hS (by decide) (by decide) fun p H1 ms s1 h1 l1 _ => ?_
    walk_at "rd"
    refine i_ixAny h1 (by omega) (by rw [List.length_map]; omega) fun v hv => ?_
    obtain ⟨z, _, rfl⟩ := List.mem_map.mp hv
    walk_at "rd"
    refine rd_spots fun sn H2 hsn s2 => ?_
    obtain ⟨n, rfl⟩ : ∃ n : Nat, sn = n := ⟨sn.toNat, by obtain ⟨n1, n2⟩ := hsn; omega⟩
    obtain ⟨n1, n2⟩ := id hsn
    walk_at "rd"
    rename_i p3 H3 hp3 s3 h3
    rw [cut_from ms (by omega)] at h3
    refine rd_lfig (m := 7) h3 (by decide) (by rw [List.length_drop]; omega) hsn fun po H4 fs hpo s4 hfs lf => ?_
    have hok : ∀ cs ∈ fs, BarOk n cs := by obtain ⟨_, _, pr⟩ := hfs; exact bars_ok pr
    have q4 : H4 p = some (.lst (ms.map V.int)) := s4 _ _ (s3 _ _ (s2 _ _ h1))
    clear s1 s2 s3 s4 h3
    walk_at "rd"
    rename_i p5 H5 hp5 s5 h5
    rw [cut_from ms (by omega)] at h5
    refine rd_lfig (m := 7) h5 (by decide) (by rw [List.length_drop]; omega) hsn fun pt H6 gs hpt s6 hgs lg => ?_
    have gok : ∀ cs ∈ gs, BarOk n cs := by obtain ⟨_, _, pr⟩ := hgs; exact bars_ok pr
    have hf6 : Bars n H6 po fs := hfs.same (s5.trans s6)
    clear s5 s6 h5 hfs
    walk_at "rd"
    refine rd_figway hsn hf6 (by omega) fun pw H7 s7 h7 => ?_
    have h7 : H7 pw = some (.lst (natV (figN n fs))) := h7
    have pm := figN_perm hsn hok
    have lw := perm_len pm
    walk_at "rd"
    refine rd_turned hsn (hf6.same s7) (by omega) fun pb H8 hpb s8 hbk => ?_
    have lb : (bkF fs).length ≤ 7 := by unfold bkF; rw [List.length_map, List.length_reverse]; exact lf
    have bok := bkF_ok hok
    have hf8 := hf6.same (s7.trans s8)
    have hg8 := hgs.same (s7.trans s8)
    have h8 := s8 _ _ h7
    clear s7 s8 hf6 hgs h7
    walk_at "rd"
    refine i_sort ((figN n fs).map fun (q : Nat) => (q : Int)) (by rw [h8, natV_int]) (by rw [List.length_map]; omega) fun ns' l H9 pm9 pw9 hl9 s9 h9 => ?_
    walk_at "rd"
    rename_i p10 H10 hp10 s10 h10 p11 H11 hp11 s11 h11
    have er : rangeV 0 (2 * (n : Int) - 0).toNat = ((List.range (2 * n)).map fun (q : Nat) => (q : Int)).map V.int := by rw [show (2 * (n : Int) - 0).toNat = 2 * n from by omega, natV_range]; unfold natV; rw [List.map_map]; rfl
    rw [er] at h11
    have eq9 : ns' = (List.range (2 * n)).map fun (q : Nat) => (q : Int) := by
      refine sorted_eq (pm9.trans (pm.map _)) pw9 ?_
      rw [List.pairwise_map]
      exact List.Pairwise.imp (fun h => by omega) (List.pairwise_lt_range (n := 2 * n))
    rw [eq9] at h9
    refine i_neL _ _ (s11 _ _ (s10 _ _ h9)) h11 ?_
    walk_at "rd"
    have s811 : Same H8 H11 := s9.trans (s10.trans s11)
    have hf11 := hf8.same s811
    have hg11 := hg8.same s811
    have hb11 := hbk.same s811
    have w11 := s811 _ _ h8
    clear s9 s10 s11 s811 h9 h10 h11 hf8 hg8 hbk h8
    refine rd_figway hsn hb11 (by omega) fun p12 H12 s12 h12 => ?_
    have h12 : H12 p12 = some (.lst (natV (figN n (bkF fs)))) := h12
    walk_at "rd"
    refine rd_undone hsn (s12 _ _ w11) pm fun p13 H13 s13 h13 => ?_
    rw [undo_eq pm (figN_perm hsn bok) (by rw [← figN_app hsn hok bok, figN_home hsn hok])] at h13
    refine i_neL _ _ (by rw [s13 _ _ h12, natV_int]) (by rw [h13, natV_int]) ?_
    walk_at "rd"
    have s1113 : Same H11 H13 := s12.trans s13
    have hf13 := hf11.same s1113
    have hg13 := hg11.same s1113
    have hb13 := hb11.same s1113
    have w13 := s1113 _ _ w11
    clear s12 s13 s1113 h12 h13 hf11 hg11 hb11 w11
    refine bars_cat hf13 hb13 (by omega) fun p14 H14 hp14 s14 h14 => ?_
    walk_at "rd"
    refine rd_figway hsn h14 (by rw [List.length_append]; omega) fun p15 H15 s15 h15 => ?_
    have h15 : H15 p15 = some (.lst (natV (figN n (fs ++ bkF fs)))) := h15
    rw [figN_home hsn hok] at h15
    walk_at "rd"
    refine rd_still hsn fun p16 H16 hp16 s16 h16 => ?_
    refine i_neL _ _ (by rw [s16 _ _ h15, natV_int]) (by rw [h16, natV_int]) ?_
    walk_at "rd"
    have s1316 : Same H13 H16 := s14.trans (s15.trans s16)
    have hf16 := hf13.same s1316
    have hg16 := hg13.same s1316
    have hb16 := hb13.same s1316
    have w16 := s1316 _ _ w13
    clear s14 s15 s16 s1316 h14 h15 h16 hf13 hg13 hb13 w13
    refine bars_cat hb16 hf16 (by omega) fun p17 H17 hp17 s17 h17 => ?_
    walk_at "rd"
    refine rd_figway hsn h17 (by rw [List.length_append]; omega) fun p18 H18 s18 h18 => ?_
    have h18 : H18 p18 = some (.lst (natV (figN n (bkF fs ++ fs)))) := h18
    have e18 : figN n (bkF fs ++ fs) = stillN n := by
      have := figN_home hsn bok
      rwa [bkF_bkF] at this
    rw [e18] at h18
    walk_at "rd"
    refine rd_still hsn fun p19 H19 hp19 s19 h19 => ?_
    refine i_neL _ _ (by rw [s19 _ _ h18, natV_int]) (by rw [h19, natV_int]) ?_
    walk_at "rd"
    have s1619 : Same H16 H19 := s17.trans (s18.trans s19)
    have hf19 := hf16.same s1619
    have hg19 := hg16.same s1619
    have hb19 := hb16.same s1619
    have w19 := s1619 _ _ w16
    clear s17 s18 s19 s1619 h17 h18 h19 hf16 hg16 hb16 w16
    refine bars_cat hf19 hb19 (by omega) fun p20 H20 hp20 s20 h20 => ?_
    walk_at "rd"
    refine rd_figbeats hsn h20 (by rw [List.length_append]; omega) fun H21 s21 => ?_
    rw [List.map_append, List.sum_append, sum_back hok, ← Int.two_mul]
    walk_at "rd"
    refine rd_figbeats hsn (hf19.same (s20.trans s21)) (by omega) fun H22 s22 => ?_
    walk_at "rd"
    have s1922 : Same H19 H22 := s20.trans (s21.trans s22)
    have hf22 := hf19.same s1922
    have hg22 := hg19.same s1922
    have w22 := s1922 _ _ w19
    clear s20 s21 s22 s1922 h20 hf19 hg19 hb19 w19
    refine bars_cat hf22 hg22 (by omega) fun p23 H23 hp23 s23 h23 => ?_
    walk_at "rd"
    refine rd_figway hsn h23 (by rw [List.length_append]; omega) fun p24 H24 s24 h24 => ?_
    have h24 : H24 p24 = some (.lst (natV (figN n (fs ++ gs)))) := h24
    rw [figN_app hsn hok gok] at h24
    walk_at "rd"
    refine rd_figway hsn (hg22.same (s23.trans s24)) (by omega) fun p25 H25 s25 h25 => ?_
    have h25 : H25 p25 = some (.lst (natV (figN n gs))) := h25
    walk_at "rd"
    refine rd_then hsn (s25 _ _ (s24 _ _ (s23 _ _ w22))) pm h25 (figN_perm hsn gok) fun p26 H26 hp26 s26 h26 => ?_
    walk_at "rd"
    have lt' : (thenN (figN n fs) (figN n gs)).length ≤ 1000 := by unfold thenN; rw [List.length_map]; omega
    refine rd_same (den_natV (s26 _ _ (s25 _ _ h24)) lt') (den_natV h26 lt') fun H27 s27 => ?_
    walk_at "rd"
    have s2227 : Same H22 H27 := s23.trans (s24.trans (s25.trans (s26.trans s27)))
    have hf27 := hf22.same s2227
    have hg27 := hg22.same s2227
    clear s23 s24 s25 s26 s27 s2227 h23 h24 h25 h26 hf22 hg22 w22
    refine bars_cat hf27 hg27 (by omega) fun p28 H28 hp28 s28 h28 => ?_
    walk_at "rd"
    refine rd_figbeats hsn h28 (by rw [List.length_append]; omega) fun H29 s29 => ?_
    walk_at "rd"
    refine rd_figbeats hsn (hf27.same (s28.trans s29)) (by omega) fun H30 s30 => ?_
    walk_at "rd"
    refine rd_figbeats hsn (hg27.same (s28.trans (s29.trans s30))) (by omega) fun H31 s31 => ?_
    walk_at "rd"
    rw [List.map_append, List.sum_append]
    exact fin_dec rfl (k _)
end


theorem all_mk {l : PySem.W.OpenLaw} {w : World} {K : PySem.W.Frag} {h : Heap} {mg : Str → Option Value} {fa : Addr} (X : K.In h) (G : h.Ns mainGlobals mg) (hfa : mg "law" = some (.ref fa))
    {oc1 kV1 dc1 pm1 cd1 ct1 : Value} {od1 an1 : Option Addr} {sl1 : Array (Option Value)} {f1 : Addr} {oc2 kV2 dc2 pm2 cd2 ct2 : Value} {od2 an2 : Option Addr} {sl2 : Array (Option Value)} {f2 : Addr} {oc3 kV3 dc3 pm3 cd3 ct3 : Value} {od3 an3 : Option Addr} {sl3 : Array (Option Value)} {f3 : Addr} {oc4 kV4 dc4 pm4 cd4 ct4 : Value} {od4 an4 : Option Addr} {sl4 : Array (Option Value)} {f4 : Addr} {oc5 kV5 dc5 pm5 cd5 ct5 : Value} {od5 an5 : Option Addr} {sl5 : Array (Option Value)} {f5 : Addr} {oc6 kV6 dc6 pm6 cd6 ct6 : Value} {od6 an6 : Option Addr} {sl6 : Array (Option Value)} {f6 : Addr} {oc7 kV7 dc7 pm7 cd7 ct7 : Value} {od7 an7 : Option Addr} {sl7 : Array (Option Value)} {f7 : Addr} {oc8 kV8 dc8 pm8 cd8 ct8 : Value} {od8 an8 : Option Addr} {sl8 : Array (Option Value)} {f8 : Addr} {oc9 kV9 dc9 pm9 cd9 ct9 : Value} {od9 an9 : Option Addr} {sl9 : Array (Option Value)} {f9 : Addr} {oc10 kV10 dc10 pm10 cd10 ct10 : Value} {od10 an10 : Option Addr} {sl10 : Array (Option Value)} {f10 : Addr} {oc11 kV11 dc11 pm11 cd11 ct11 : Value} {od11 an11 : Option Addr} {sl11 : Array (Option Value)} {f11 : Addr} {oc12 kV12 dc12 pm12 cd12 ct12 : Value} {od12 an12 : Option Addr} {sl12 : Array (Option Value)} {f12 : Addr} {oc13 kV13 dc13 pm13 cd13 ct13 : Value} {od13 an13 : Option Addr} {sl13 : Array (Option Value)} {f13 : Addr} {oc14 kV14 dc14 pm14 cd14 ct14 : Value} {od14 an14 : Option Addr} {sl14 : Array (Option Value)} {f14 : Addr} {oc15 kV15 dc15 pm15 cd15 ct15 : Value} {od15 an15 : Option Addr} {sl15 : Array (Option Value)} {f15 : Addr} {oc16 kV16 dc16 pm16 cd16 ct16 : Value} {od16 an16 : Option Addr} {sl16 : Array (Option Value)} {f16 : Addr} {oc17 kV17 dc17 pm17 cd17 ct17 : Value} {od17 an17 : Option Addr} {sl17 : Array (Option Value)} {f17 : Addr} {oc18 kV18 dc18 pm18 cd18 ct18 : Value} {od18 an18 : Option Addr} {sl18 : Array (Option Value)} {f18 : Addr} {oc19 kV19 dc19 pm19 cd19 ct19 : Value} {od19 an19 : Option Addr} {sl19 : Array (Option Value)} {f19 : Addr} {oc20 kV20 dc20 pm20 cd20 ct20 : Value} {od20 an20 : Option Addr} {sl20 : Array (Option Value)} {f20 : Addr} {oc21 kV21 dc21 pm21 cd21 ct21 : Value} {od21 an21 : Option Addr} {sl21 : Array (Option Value)} {f21 : Addr} {oc22 kV22 dc22 pm22 cd22 ct22 : Value} {od22 an22 : Option Addr} {sl22 : Array (Option Value)} {f22 : Addr} {oc23 kV23 dc23 pm23 cd23 ct23 : Value} {od23 an23 : Option Addr} {sl23 : Array (Option Value)} {f23 : Addr} {oc24 kV24 dc24 pm24 cd24 ct24 : Value} {od24 an24 : Option Addr} {sl24 : Array (Option Value)} {f24 : Addr} {oc25 kV25 dc25 pm25 cd25 ct25 : Value} {od25 an25 : Option Addr} {sl25 : Array (Option Value)} {f25 : Addr} {oc26 kV26 dc26 pm26 cd26 ct26 : Value} {od26 an26 : Option Addr} {sl26 : Array (Option Value)} {f26 : Addr} {oc27 kV27 dc27 pm27 cd27 ct27 : Value} {od27 an27 : Option Addr} {sl27 : Array (Option Value)} {f27 : Addr} {oc28 kV28 dc28 pm28 cd28 ct28 : Value} {od28 an28 : Option Addr} {sl28 : Array (Option Value)} {f28 : Addr} {oc29 kV29 dc29 pm29 cd29 ct29 : Value} {od29 an29 : Option Addr} {sl29 : Array (Option Value)} {f29 : Addr} {oc30 kV30 dc30 pm30 cd30 ct30 : Value} {od30 an30 : Option Addr} {sl30 : Array (Option Value)} {f30 : Addr} {oc31 kV31 dc31 pm31 cd31 ct31 : Value} {od31 an31 : Option Addr} {sl31 : Array (Option Value)} {f31 : Addr} {oc32 kV32 dc32 pm32 cd32 ct32 : Value} {od32 an32 : Option Addr} {sl32 : Array (Option Value)} {f32 : Addr} {oc33 kV33 dc33 pm33 cd33 ct33 : Value} {od33 an33 : Option Addr} {sl33 : Array (Option Value)} {f33 : Addr} {oc34 kV34 dc34 pm34 cd34 ct34 : Value} {od34 an34 : Option Addr} {sl34 : Array (Option Value)} {f34 : Addr} {oc35 kV35 dc35 pm35 cd35 ct35 : Value} {od35 an35 : Option Addr} {sl35 : Array (Option Value)} {f35 : Addr} {oc36 kV36 dc36 pm36 cd36 ct36 : Value} {od36 an36 : Option Addr} {sl36 : Array (Option Value)} {f36 : Addr} {oc37 kV37 dc37 pm37 cd37 ct37 : Value} {od37 an37 : Option Addr} {sl37 : Array (Option Value)} {f37 : Addr} {t_FEWEST_SPOTS : Tok} {t_MOST_SPOTS : Tok} {t_MOST_MANY : Tok} {t_MOST_CALLS : Tok} {t_MOST_BARS : Tok}
    (a1 : PySem.W.nsIn K mainGlobals "_law_numbers" = some (some (.ref f1))) (l1 : K.lookup f1 = some ⟨oc1, od1, .func (PySem.W.fnOf "_law_numbers" "_law_numbers" (defArgs s__law_numbers) (defBody s__law_numbers) (defScope s__law_numbers) .none kV1 dc1 pm1 an1 cd1 ct1), sl1⟩) (c1 : PySem.W.codeIn K cd1 "_law_numbers" = true) (k1 : PySem.W.keepIn K (.ref f1) = true)
    (a2 : PySem.W.nsIn K mainGlobals "_law_same" = some (some (.ref f2))) (l2 : K.lookup f2 = some ⟨oc2, od2, .func (PySem.W.fnOf "_law_same" "_law_same" (defArgs s__law_same) (defBody s__law_same) (defScope s__law_same) .none kV2 dc2 pm2 an2 cd2 ct2), sl2⟩) (c2 : PySem.W.codeIn K cd2 "_law_same" = true) (k2 : PySem.W.keepIn K (.ref f2) = true)
    (a3 : PySem.W.nsIn K mainGlobals "look_spots" = some (some (.ref f3))) (l3 : K.lookup f3 = some ⟨oc3, od3, .func (PySem.W.fnOf "look_spots" "look_spots" (defArgs s_look_spots) (defBody s_look_spots) (defScope s_look_spots) .none kV3 dc3 pm3 an3 cd3 ct3), sl3⟩) (c3 : PySem.W.codeIn K cd3 "look_spots" = true) (k3 : PySem.W.keepIn K (.ref f3) = true)
    (a4 : PySem.W.nsIn K mainGlobals "is_span" = some (some (.ref f4))) (l4 : K.lookup f4 = some ⟨oc4, od4, .func (PySem.W.fnOf "is_span" "is_span" (defArgs s_is_span) (defBody s_is_span) (defScope s_is_span) .none kV4 dc4 pm4 an4 cd4 ct4), sl4⟩) (c4 : PySem.W.codeIn K cd4 "is_span" = true) (k4 : PySem.W.keepIn K (.ref f4) = true)
    (a5 : PySem.W.nsIn K mainGlobals "numbers_fit" = some (some (.ref f5))) (l5 : K.lookup f5 = some ⟨oc5, od5, .func (PySem.W.fnOf "numbers_fit" "numbers_fit" (defArgs s_numbers_fit) (defBody s_numbers_fit) (defScope s_numbers_fit) .none kV5 dc5 pm5 an5 cd5 ct5), sl5⟩) (c5 : PySem.W.codeIn K cd5 "numbers_fit" = true) (k5 : PySem.W.keepIn K (.ref f5) = true)
    (a6 : PySem.W.nsIn K mainGlobals "look_call" = some (some (.ref f6))) (l6 : K.lookup f6 = some ⟨oc6, od6, .func (PySem.W.fnOf "look_call" "look_call" (defArgs s_look_call) (defBody s_look_call) (defScope s_look_call) .none kV6 dc6 pm6 an6 cd6 ct6), sl6⟩) (c6 : PySem.W.codeIn K cd6 "look_call" = true) (k6 : PySem.W.keepIn K (.ref f6) = true)
    (a7 : PySem.W.nsIn K mainGlobals "exchange_places" = some (some (.ref f7))) (l7 : K.lookup f7 = some ⟨oc7, od7, .func (PySem.W.fnOf "exchange_places" "exchange_places" (defArgs s_exchange_places) (defBody s_exchange_places) (defScope s_exchange_places) .none kV7 dc7 pm7 an7 cd7 ct7), sl7⟩) (c7 : PySem.W.codeIn K cd7 "exchange_places" = true) (k7 : PySem.W.keepIn K (.ref f7) = true)
    (a8 : PySem.W.nsIn K mainGlobals "still" = some (some (.ref f8))) (l8 : K.lookup f8 = some ⟨oc8, od8, .func (PySem.W.fnOf "still" "still" (defArgs s_still) (defBody s_still) (defScope s_still) .none kV8 dc8 pm8 an8 cd8 ct8), sl8⟩) (c8 : PySem.W.codeIn K cd8 "still" = true) (k8 : PySem.W.keepIn K (.ref f8) = true)
    (a9 : PySem.W.nsIn K mainGlobals "ring_places" = some (some (.ref f9))) (l9 : K.lookup f9 = some ⟨oc9, od9, .func (PySem.W.fnOf "ring_places" "ring_places" (defArgs s_ring_places) (defBody s_ring_places) (defScope s_ring_places) .none kV9 dc9 pm9 an9 cd9 ct9), sl9⟩) (c9 : PySem.W.codeIn K cd9 "ring_places" = true) (k9 : PySem.W.keepIn K (.ref f9) = true)
    (a10 : PySem.W.nsIn K mainGlobals "look_way" = some (some (.ref f10))) (l10 : K.lookup f10 = some ⟨oc10, od10, .func (PySem.W.fnOf "look_way" "look_way" (defArgs s_look_way) (defBody s_look_way) (defScope s_look_way) .none kV10 dc10 pm10 an10 cd10 ct10), sl10⟩) (c10 : PySem.W.codeIn K cd10 "look_way" = true) (k10 : PySem.W.keepIn K (.ref f10) = true)
    (a11 : PySem.W.nsIn K mainGlobals "undone" = some (some (.ref f11))) (l11 : K.lookup f11 = some ⟨oc11, od11, .func (PySem.W.fnOf "undone" "undone" (defArgs s_undone) (defBody s_undone) (defScope s_undone) .none kV11 dc11 pm11 an11 cd11 ct11), sl11⟩) (c11 : PySem.W.codeIn K cd11 "undone" = true) (k11 : PySem.W.keepIn K (.ref f11) = true)
    (a12 : PySem.W.nsIn K mainGlobals "cast_way" = some (some (.ref f12))) (l12 : K.lookup f12 = some ⟨oc12, od12, .func (PySem.W.fnOf "cast_way" "cast_way" (defArgs s_cast_way) (defBody s_cast_way) (defScope s_cast_way) .none kV12 dc12 pm12 an12 cd12 ct12), sl12⟩) (c12 : PySem.W.codeIn K cd12 "cast_way" = true) (k12 : PySem.W.keepIn K (.ref f12) = true)
    (a13 : PySem.W.nsIn K mainGlobals "round_way" = some (some (.ref f13))) (l13 : K.lookup f13 = some ⟨oc13, od13, .func (PySem.W.fnOf "round_way" "round_way" (defArgs s_round_way) (defBody s_round_way) (defScope s_round_way) .none kV13 dc13 pm13 an13 cd13 ct13), sl13⟩) (c13 : PySem.W.codeIn K cd13 "round_way" = true) (k13 : PySem.W.keepIn K (.ref f13) = true)
    (a14 : PySem.W.nsIn K mainGlobals "exchange_way" = some (some (.ref f14))) (l14 : K.lookup f14 = some ⟨oc14, od14, .func (PySem.W.fnOf "exchange_way" "exchange_way" (defArgs s_exchange_way) (defBody s_exchange_way) (defScope s_exchange_way) .none kV14 dc14 pm14 an14 cd14 ct14), sl14⟩) (c14 : PySem.W.codeIn K cd14 "exchange_way" = true) (k14 : PySem.W.keepIn K (.ref f14) = true)
    (a15 : PySem.W.nsIn K mainGlobals "call_way" = some (some (.ref f15))) (l15 : K.lookup f15 = some ⟨oc15, od15, .func (PySem.W.fnOf "call_way" "call_way" (defArgs s_call_way) (defBody s_call_way) (defScope s_call_way) .none kV15 dc15 pm15 an15 cd15 ct15), sl15⟩) (c15 : PySem.W.codeIn K cd15 "call_way" = true) (k15 : PySem.W.keepIn K (.ref f15) = true)
    (a16 : PySem.W.nsIn K mainGlobals "_law_ring" = some (some (.ref f16))) (l16 : K.lookup f16 = some ⟨oc16, od16, .func (PySem.W.fnOf "_law_ring" "_law_ring" (defArgs s__law_ring) (defBody s__law_ring) (defScope s__law_ring) .none kV16 dc16 pm16 an16 cd16 ct16), sl16⟩) (c16 : PySem.W.codeIn K cd16 "_law_ring" = true) (k16 : PySem.W.keepIn K (.ref f16) = true)
    (a17 : PySem.W.nsIn K mainGlobals "_law_ring_swaps" = some (some (.ref f17))) (l17 : K.lookup f17 = some ⟨oc17, od17, .func (PySem.W.fnOf "_law_ring_swaps" "_law_ring_swaps" (defArgs s__law_ring_swaps) (defBody s__law_ring_swaps) (defScope s__law_ring_swaps) .none kV17 dc17 pm17 an17 cd17 ct17), sl17⟩) (c17 : PySem.W.codeIn K cd17 "_law_ring_swaps" = true) (k17 : PySem.W.keepIn K (.ref f17) = true)
    (a18 : PySem.W.nsIn K mainGlobals "_law_swaps" = some (some (.ref f18))) (l18 : K.lookup f18 = some ⟨oc18, od18, .func (PySem.W.fnOf "_law_swaps" "_law_swaps" (defArgs s__law_swaps) (defBody s__law_swaps) (defScope s__law_swaps) .none kV18 dc18 pm18 an18 cd18 ct18), sl18⟩) (c18 : PySem.W.codeIn K cd18 "_law_swaps" = true) (k18 : PySem.W.keepIn K (.ref f18) = true)
    (a19 : PySem.W.nsIn K mainGlobals "taken" = some (some (.ref f19))) (l19 : K.lookup f19 = some ⟨oc19, od19, .func (PySem.W.fnOf "taken" "taken" (defArgs s_taken) (defBody s_taken) (defScope s_taken) .none kV19 dc19 pm19 an19 cd19 ct19), sl19⟩) (c19 : PySem.W.codeIn K cd19 "taken" = true) (k19 : PySem.W.keepIn K (.ref f19) = true)
    (a20 : PySem.W.nsIn K mainGlobals "beats" = some (some (.ref f20))) (l20 : K.lookup f20 = some ⟨oc20, od20, .func (PySem.W.fnOf "beats" "beats" (defArgs s_beats) (defBody s_beats) (defScope s_beats) .none kV20 dc20 pm20 an20 cd20 ct20), sl20⟩) (c20 : PySem.W.codeIn K cd20 "beats" = true) (k20 : PySem.W.keepIn K (.ref f20) = true)
    (a21 : PySem.W.nsIn K mainGlobals "look_bar" = some (some (.ref f21))) (l21 : K.lookup f21 = some ⟨oc21, od21, .func (PySem.W.fnOf "look_bar" "look_bar" (defArgs s_look_bar) (defBody s_look_bar) (defScope s_look_bar) .none kV21 dc21 pm21 an21 cd21 ct21), sl21⟩) (c21 : PySem.W.codeIn K cd21 "look_bar" = true) (k21 : PySem.W.keepIn K (.ref f21) = true)
    (a22 : PySem.W.nsIn K mainGlobals "then" = some (some (.ref f22))) (l22 : K.lookup f22 = some ⟨oc22, od22, .func (PySem.W.fnOf "then" "then" (defArgs s_then) (defBody s_then) (defScope s_then) .none kV22 dc22 pm22 an22 cd22 ct22), sl22⟩) (c22 : PySem.W.codeIn K cd22 "then" = true) (k22 : PySem.W.keepIn K (.ref f22) = true)
    (a23 : PySem.W.nsIn K mainGlobals "row_way" = some (some (.ref f23))) (l23 : K.lookup f23 = some ⟨oc23, od23, .func (PySem.W.fnOf "row_way" "row_way" (defArgs s_row_way) (defBody s_row_way) (defScope s_row_way) .none kV23 dc23 pm23 an23 cd23 ct23), sl23⟩) (c23 : PySem.W.codeIn K cd23 "row_way" = true) (k23 : PySem.W.keepIn K (.ref f23) = true)
    (a24 : PySem.W.nsIn K mainGlobals "bar_way" = some (some (.ref f24))) (l24 : K.lookup f24 = some ⟨oc24, od24, .func (PySem.W.fnOf "bar_way" "bar_way" (defArgs s_bar_way) (defBody s_bar_way) (defScope s_bar_way) .none kV24 dc24 pm24 an24 cd24 ct24), sl24⟩) (c24 : PySem.W.codeIn K cd24 "bar_way" = true) (k24 : PySem.W.keepIn K (.ref f24) = true)
    (a25 : PySem.W.nsIn K mainGlobals "bar_beats" = some (some (.ref f25))) (l25 : K.lookup f25 = some ⟨oc25, od25, .func (PySem.W.fnOf "bar_beats" "bar_beats" (defArgs s_bar_beats) (defBody s_bar_beats) (defScope s_bar_beats) .none kV25 dc25 pm25 an25 cd25 ct25), sl25⟩) (c25 : PySem.W.codeIn K cd25 "bar_beats" = true) (k25 : PySem.W.keepIn K (.ref f25) = true)
    (a26 : PySem.W.nsIn K mainGlobals "_law_takes" = some (some (.ref f26))) (l26 : K.lookup f26 = some ⟨oc26, od26, .func (PySem.W.fnOf "_law_takes" "_law_takes" (defArgs s__law_takes) (defBody s__law_takes) (defScope s__law_takes) .none kV26 dc26 pm26 an26 cd26 ct26), sl26⟩) (c26 : PySem.W.codeIn K cd26 "_law_takes" = true) (k26 : PySem.W.keepIn K (.ref f26) = true)
    (a27 : PySem.W.nsIn K mainGlobals "_law_spots" = some (some (.ref f27))) (l27 : K.lookup f27 = some ⟨oc27, od27, .func (PySem.W.fnOf "_law_spots" "_law_spots" (defArgs s__law_spots) (defBody s__law_spots) (defScope s__law_spots) .none kV27 dc27 pm27 an27 cd27 ct27), sl27⟩) (c27 : PySem.W.codeIn K cd27 "_law_spots" = true) (k27 : PySem.W.keepIn K (.ref f27) = true)
    (a28 : PySem.W.nsIn K mainGlobals "_law_call" = some (some (.ref f28))) (l28 : K.lookup f28 = some ⟨oc28, od28, .func (PySem.W.fnOf "_law_call" "_law_call" (defArgs s__law_call) (defBody s__law_call) (defScope s__law_call) .none kV28 dc28 pm28 an28 cd28 ct28), sl28⟩) (c28 : PySem.W.codeIn K cd28 "_law_call" = true) (k28 : PySem.W.keepIn K (.ref f28) = true)
    (a29 : PySem.W.nsIn K mainGlobals "_law_loose_bar" = some (some (.ref f29))) (l29 : K.lookup f29 = some ⟨oc29, od29, .func (PySem.W.fnOf "_law_loose_bar" "_law_loose_bar" (defArgs s__law_loose_bar) (defBody s__law_loose_bar) (defScope s__law_loose_bar) .none kV29 dc29 pm29 an29 cd29 ct29), sl29⟩) (c29 : PySem.W.codeIn K cd29 "_law_loose_bar" = true) (k29 : PySem.W.keepIn K (.ref f29) = true)
    (a30 : PySem.W.nsIn K mainGlobals "_law_bar" = some (some (.ref f30))) (l30 : K.lookup f30 = some ⟨oc30, od30, .func (PySem.W.fnOf "_law_bar" "_law_bar" (defArgs s__law_bar) (defBody s__law_bar) (defScope s__law_bar) .none kV30 dc30 pm30 an30 cd30 ct30), sl30⟩) (c30 : PySem.W.codeIn K cd30 "_law_bar" = true) (k30 : PySem.W.keepIn K (.ref f30) = true)
    (a31 : PySem.W.nsIn K mainGlobals "look_figure" = some (some (.ref f31))) (l31 : K.lookup f31 = some ⟨oc31, od31, .func (PySem.W.fnOf "look_figure" "look_figure" (defArgs s_look_figure) (defBody s_look_figure) (defScope s_look_figure) .none kV31 dc31 pm31 an31 cd31 ct31), sl31⟩) (c31 : PySem.W.codeIn K cd31 "look_figure" = true) (k31 : PySem.W.keepIn K (.ref f31) = true)
    (a32 : PySem.W.nsIn K mainGlobals "figure_way" = some (some (.ref f32))) (l32 : K.lookup f32 = some ⟨oc32, od32, .func (PySem.W.fnOf "figure_way" "figure_way" (defArgs s_figure_way) (defBody s_figure_way) (defScope s_figure_way) .none kV32 dc32 pm32 an32 cd32 ct32), sl32⟩) (c32 : PySem.W.codeIn K cd32 "figure_way" = true) (k32 : PySem.W.keepIn K (.ref f32) = true)
    (a33 : PySem.W.nsIn K mainGlobals "figure_beats" = some (some (.ref f33))) (l33 : K.lookup f33 = some ⟨oc33, od33, .func (PySem.W.fnOf "figure_beats" "figure_beats" (defArgs s_figure_beats) (defBody s_figure_beats) (defScope s_figure_beats) .none kV33 dc33 pm33 an33 cd33 ct33), sl33⟩) (c33 : PySem.W.codeIn K cd33 "figure_beats" = true) (k33 : PySem.W.keepIn K (.ref f33) = true)
    (a34 : PySem.W.nsIn K mainGlobals "_law_figure" = some (some (.ref f34))) (l34 : K.lookup f34 = some ⟨oc34, od34, .func (PySem.W.fnOf "_law_figure" "_law_figure" (defArgs s__law_figure) (defBody s__law_figure) (defScope s__law_figure) .none kV34 dc34 pm34 an34 cd34 ct34), sl34⟩) (c34 : PySem.W.codeIn K cd34 "_law_figure" = true) (k34 : PySem.W.keepIn K (.ref f34) = true)
    (a35 : PySem.W.nsIn K mainGlobals "turned_call" = some (some (.ref f35))) (l35 : K.lookup f35 = some ⟨oc35, od35, .func (PySem.W.fnOf "turned_call" "turned_call" (defArgs s_turned_call) (defBody s_turned_call) (defScope s_turned_call) .none kV35 dc35 pm35 an35 cd35 ct35), sl35⟩) (c35 : PySem.W.codeIn K cd35 "turned_call" = true) (k35 : PySem.W.keepIn K (.ref f35) = true)
    (a36 : PySem.W.nsIn K mainGlobals "turned" = some (some (.ref f36))) (l36 : K.lookup f36 = some ⟨oc36, od36, .func (PySem.W.fnOf "turned" "turned" (defArgs s_turned) (defBody s_turned) (defScope s_turned) .none kV36 dc36 pm36 an36 cd36 ct36), sl36⟩) (c36 : PySem.W.codeIn K cd36 "turned" = true) (k36 : PySem.W.keepIn K (.ref f36) = true)
    (a37 : PySem.W.nsIn K mainGlobals "law" = some (some (.ref f37))) (l37 : K.lookup f37 = some ⟨oc37, od37, .func (PySem.W.fnOf "law" "law" (defArgs s_law) (defBody s_law) (defScope s_law) .none kV37 dc37 pm37 an37 cd37 ct37), sl37⟩) (c37 : PySem.W.codeIn K cd37 "law" = true) (k37 : PySem.W.keepIn K (.ref f37) = true)
    (z_isinstance : PySem.W.nsIn K mainGlobals "isinstance" = some none)
    (z_list : PySem.W.nsIn K mainGlobals "list" = some none)
    (z_tuple : PySem.W.nsIn K mainGlobals "tuple" = some none)
    (z_len : PySem.W.nsIn K mainGlobals "len" = some none)
    (z_all : PySem.W.nsIn K mainGlobals "all" = some none)
    (z_range : PySem.W.nsIn K mainGlobals "range" = some none)
    (z_bool : PySem.W.nsIn K mainGlobals "bool" = some none)
    (z_str : PySem.W.nsIn K mainGlobals "str" = some none)
    (z_int : PySem.W.nsIn K mainGlobals "int" = some none)
    (z_abs : PySem.W.nsIn K mainGlobals "abs" = some none)
    (z_sorted : PySem.W.nsIn K mainGlobals "sorted" = some none)
    (z_enumerate : PySem.W.nsIn K mainGlobals "enumerate" = some none)
    (z_sum : PySem.W.nsIn K mainGlobals "sum" = some none)
    (z_max : PySem.W.nsIn K mainGlobals "max" = some none)
    (z_any : PySem.W.nsIn K mainGlobals "any" = some none)
    (z_zip : PySem.W.nsIn K mainGlobals "zip" = some none)
    (z_reversed : PySem.W.nsIn K mainGlobals "reversed" = some none)
    (v_FEWEST_SPOTS : PySem.W.nsIn K mainGlobals "FEWEST_SPOTS" = some (some (.int 2 t_FEWEST_SPOTS)))
    (v_MOST_SPOTS : PySem.W.nsIn K mainGlobals "MOST_SPOTS" = some (some (.int 6 t_MOST_SPOTS)))
    (v_MOST_MANY : PySem.W.nsIn K mainGlobals "MOST_MANY" = some (some (.int 64 t_MOST_MANY)))
    (v_MOST_CALLS : PySem.W.nsIn K mainGlobals "MOST_CALLS" = some (some (.int 4 t_MOST_CALLS)))
    (v_MOST_BARS : PySem.W.nsIn K mainGlobals "MOST_BARS" = some (some (.int 16 t_MOST_BARS))) {aC : Addr} {epC : Nat} {u0 w0 : Tok} {u1 w1 : Tok} {u2 w2 : Tok} {u3 w3 : Tok} {u4 w4 : Tok} {u5 w5 : Tok} {u6 w6 : Tok} {u7 w7 : Tok} (vC : PySem.W.nsIn K mainGlobals "COUNTS" = some (some (.ref aC))) (sC : (aC == sysModules) = false) (lC : K.lookup aC = some { cls := .type "dict", data := .dict #[⟨PyData.keyHash w.params "ring", .str "ring" u0, .int 3 w0⟩, ⟨PyData.keyHash w.params "chain", .str "chain" u1, .int 3 w1⟩, ⟨PyData.keyHash w.params "cross", .str "cross" u2, .int 1 w2⟩, ⟨PyData.keyHash w.params "pass", .str "pass" u3, .int 2 w3⟩, ⟨PyData.keyHash w.params "corner", .str "corner" u4, .int 2 w4⟩, ⟨PyData.keyHash w.params "cast", .str "cast" u5, .int 2 w5⟩, ⟨PyData.keyHash w.params "lead", .str "lead" u6, .int 2 w6⟩, ⟨PyData.keyHash w.params "stand", .str "stand" u7, .int 1 w7⟩] epC }) :
    ∃ fd : FuncData, (∀ (s : Shared) (v : Value), BindsTo s fd ⟨[v], []⟩ [("_law_script", v)]) ∧ ∀ base : Heap, K.In base → base.Ns mainGlobals mg → FnOk l.prog w K mg base CX0 8 fa fd ["_law_script"] (spLaw K) := by
  have e := hfa.symm.trans (PySem.W.mg_of X G a37)
  cases e
  have F1 := fun_mk (st := s__law_numbers) l1 c1 k1
  have b1 := F1.binds (ps := ["_law_script", "_law_many"]) fun _ _ _ _ _ _ us hl => match us, hl with | [_, _], _ => rfl
  have F2 := fun_mk (st := s__law_same) l2 c2 k2
  have b2 := F2.binds (ps := ["_law_found", "_law_due"]) fun _ _ _ _ _ _ us hl => match us, hl with | [_, _], _ => rfl
  have F3 := fun_mk (st := s_look_spots) l3 c3 k3
  have b3 := F3.binds (ps := ["spots"]) fun _ _ _ _ _ _ us hl => match us, hl with | [_], _ => rfl
  have F4 := fun_mk (st := s_is_span) l4 c4 k4
  have b4 := F4.binds (ps := ["spots", "first", "last"]) fun _ _ _ _ _ _ us hl => match us, hl with | [_, _, _], _ => rfl
  have F5 := fun_mk (st := s_numbers_fit) l5 c5 k5
  have b5 := F5.binds (ps := ["spots", "call"]) fun _ _ _ _ _ _ us hl => match us, hl with | [_, _], _ => rfl
  have F6 := fun_mk (st := s_look_call) l6 c6 k6
  have b6 := F6.binds (ps := ["spots", "call"]) fun _ _ _ _ _ _ us hl => match us, hl with | [_, _], _ => rfl
  have F7 := fun_mk (st := s_exchange_places) l7 c7 k7
  have b7 := F7.binds (ps := ["call"]) fun _ _ _ _ _ _ us hl => match us, hl with | [_], _ => rfl
  have F8 := fun_mk (st := s_still) l8 c8 k8
  have b8 := F8.binds (ps := ["spots"]) fun _ _ _ _ _ _ us hl => match us, hl with | [_], _ => rfl
  have F9 := fun_mk (st := s_ring_places) l9 c9 k9
  have b9 := F9.binds (ps := ["spots", "first", "last"]) fun _ _ _ _ _ _ us hl => match us, hl with | [_, _, _], _ => rfl
  have F10 := fun_mk (st := s_look_way) l10 c10 k10
  have b10 := F10.binds (ps := ["spots", "way"]) fun _ _ _ _ _ _ us hl => match us, hl with | [_, _], _ => rfl
  have F11 := fun_mk (st := s_undone) l11 c11 k11
  have b11 := F11.binds (ps := ["spots", "way"]) fun _ _ _ _ _ _ us hl => match us, hl with | [_, _], _ => rfl
  have F12 := fun_mk (st := s_cast_way) l12 c12 k12
  have b12 := F12.binds (ps := ["spots", "first", "last"]) fun _ _ _ _ _ _ us hl => match us, hl with | [_, _, _], _ => rfl
  have F13 := fun_mk (st := s_round_way) l13 c13 k13
  have b13 := F13.binds (ps := ["spots", "call"]) fun _ _ _ _ _ _ us hl => match us, hl with | [_, _], _ => rfl
  have F14 := fun_mk (st := s_exchange_way) l14 c14 k14
  have b14 := F14.binds (ps := ["spots", "call"]) fun _ _ _ _ _ _ us hl => match us, hl with | [_, _], _ => rfl
  have F15 := fun_mk (st := s_call_way) l15 c15 k15
  have b15 := F15.binds (ps := ["spots", "call"]) fun _ _ _ _ _ _ us hl => match us, hl with | [_, _], _ => rfl
  have F16 := fun_mk (st := s__law_ring) l16 c16 k16
  have b16 := F16.binds (ps := ["_law_first", "_law_last"]) fun _ _ _ _ _ _ us hl => match us, hl with | [_, _], _ => rfl
  have F17 := fun_mk (st := s__law_ring_swaps) l17 c17 k17
  have b17 := F17.binds (ps := ["_law_call_here"]) fun _ _ _ _ _ _ us hl => match us, hl with | [_], _ => rfl
  have F18 := fun_mk (st := s__law_swaps) l18 c18 k18
  have b18 := F18.binds (ps := ["_law_call_here"]) fun _ _ _ _ _ _ us hl => match us, hl with | [_], _ => rfl
  have F19 := fun_mk (st := s_taken) l19 c19 k19
  have b19 := F19.binds (ps := ["spots", "call"]) fun _ _ _ _ _ _ us hl => match us, hl with | [_, _], _ => rfl
  have F20 := fun_mk (st := s_beats) l20 c20 k20
  have b20 := F20.binds (ps := ["spots", "call"]) fun _ _ _ _ _ _ us hl => match us, hl with | [_, _], _ => rfl
  have F21 := fun_mk (st := s_look_bar) l21 c21 k21
  have b21 := F21.binds (ps := ["spots", "bar"]) fun _ _ _ _ _ _ us hl => match us, hl with | [_, _], _ => rfl
  have F22 := fun_mk (st := s_then) l22 c22 k22
  have b22 := F22.binds (ps := ["spots", "one", "other"]) fun _ _ _ _ _ _ us hl => match us, hl with | [_, _, _], _ => rfl
  have F23 := fun_mk (st := s_row_way) l23 c23 k23
  have b23 := F23.binds (ps := ["spots", "ways"]) fun _ _ _ _ _ _ us hl => match us, hl with | [_, _], _ => rfl
  have F24 := fun_mk (st := s_bar_way) l24 c24 k24
  have b24 := F24.binds (ps := ["spots", "bar"]) fun _ _ _ _ _ _ us hl => match us, hl with | [_, _], _ => rfl
  have F25 := fun_mk (st := s_bar_beats) l25 c25 k25
  have b25 := F25.binds (ps := ["spots", "bar"]) fun _ _ _ _ _ _ us hl => match us, hl with | [_, _], _ => rfl
  have F26 := fun_mk (st := s__law_takes) l26 c26 k26
  have b26 := F26.binds (ps := ["_law_call_here"]) fun _ _ _ _ _ _ us hl => match us, hl with | [_], _ => rfl
  have F27 := fun_mk (st := s__law_spots) l27 c27 k27
  have b27 := F27.binds (ps := ["_law_d"]) fun _ _ _ _ _ _ us hl => match us, hl with | [_], _ => rfl
  have F28 := fun_mk (st := s__law_call) l28 c28 k28
  have b28 := F28.binds (ps := ["_law_d", "_law_spots_here"]) fun _ _ _ _ _ _ us hl => match us, hl with | [_, _], _ => rfl
  have F29 := fun_mk (st := s__law_loose_bar) l29 c29 k29
  have b29 := F29.binds (ps := ["_law_d", "_law_spots_here"]) fun _ _ _ _ _ _ us hl => match us, hl with | [_, _], _ => rfl
  have F30 := fun_mk (st := s__law_bar) l30 c30 k30
  have b30 := F30.binds (ps := ["_law_d", "_law_spots_here"]) fun _ _ _ _ _ _ us hl => match us, hl with | [_, _], _ => rfl
  have F31 := fun_mk (st := s_look_figure) l31 c31 k31
  have b31 := F31.binds (ps := ["spots", "figure"]) fun _ _ _ _ _ _ us hl => match us, hl with | [_, _], _ => rfl
  have F32 := fun_mk (st := s_figure_way) l32 c32 k32
  have b32 := F32.binds (ps := ["spots", "figure"]) fun _ _ _ _ _ _ us hl => match us, hl with | [_, _], _ => rfl
  have F33 := fun_mk (st := s_figure_beats) l33 c33 k33
  have b33 := F33.binds (ps := ["spots", "figure"]) fun _ _ _ _ _ _ us hl => match us, hl with | [_, _], _ => rfl
  have F34 := fun_mk (st := s__law_figure) l34 c34 k34
  have b34 := F34.binds (ps := ["_law_d", "_law_spots_here", "_law_most"]) fun _ _ _ _ _ _ us hl => match us, hl with | [_, _, _], _ => rfl
  have F35 := fun_mk (st := s_turned_call) l35 c35 k35
  have b35 := F35.binds (ps := ["spots", "call"]) fun _ _ _ _ _ _ us hl => match us, hl with | [_, _], _ => rfl
  have F36 := fun_mk (st := s_turned) l36 c36 k36
  have b36 := F36.binds (ps := ["spots", "figure"]) fun _ _ _ _ _ _ us hl => match us, hl with | [_, _], _ => rfl
  have F37 := fun_mk (st := s_law) l37 c37 k37
  have b37 := F37.binds (ps := ["_law_script"]) fun _ _ _ _ _ _ us hl => match us, hl with | [_], _ => rfl
  have T : Txt l.prog w K mg := ⟨PySem.W.mg_none_of X G z_isinstance, PySem.W.mg_none_of X G z_list, PySem.W.mg_none_of X G z_tuple, PySem.W.mg_none_of X G z_len, PySem.W.mg_none_of X G z_all, PySem.W.mg_none_of X G z_range, PySem.W.mg_none_of X G z_bool, PySem.W.mg_none_of X G z_str, PySem.W.mg_none_of X G z_int, PySem.W.mg_none_of X G z_abs, PySem.W.mg_none_of X G z_sorted, PySem.W.mg_none_of X G z_enumerate, PySem.W.mg_none_of X G z_sum, PySem.W.mg_none_of X G z_max, PySem.W.mg_none_of X G z_any, PySem.W.mg_none_of X G z_zip, PySem.W.mg_none_of X G z_reversed, ⟨_, PySem.W.mg_of X G v_FEWEST_SPOTS⟩, ⟨_, PySem.W.mg_of X G v_MOST_SPOTS⟩, ⟨_, PySem.W.mg_of X G v_MOST_MANY⟩, ⟨_, PySem.W.mg_of X G v_MOST_CALLS⟩, ⟨_, PySem.W.mg_of X G v_MOST_BARS⟩, aC, PySem.W.mg_of X G vC, kdict_mk [("ring", u0, 3, w0), ("chain", u1, 3, w1), ("cross", u2, 1, w2), ("pass", u3, 2, w3), ("corner", u4, 2, w4), ("cast", u5, 2, w5), ("lead", u6, 2, w6), ("stand", u7, 1, w7)] sC lC (show ([Sum.inr "ring", Sum.inr "chain", Sum.inr "cross", Sum.inr "pass", Sum.inr "corner", Sum.inr "cast", Sum.inr "lead", Sum.inr "stand"] : List Key).Nodup by decide +kernel)⟩
  refine ⟨PySem.W.fnOf "law" "law" (defArgs s_law) (defBody s_law) (defScope s_law) .none kV37 dc37 pm37 an37 cd37 ct37, fun s v => .of_eq rfl, fun base _ _ => ?_⟩
  have F__law_numbers : FnAt l.prog w K mg base "_law_numbers" 1 (spNum K) := ⟨f1, _, _, ok__law_numbers F1 T , b1, PySem.W.mg_of X G a1, k1⟩
  have F__law_same : FnAt l.prog w K mg base "_law_same" 3 (spSame 3) := ⟨f2, _, _, ok_same F2 T b2 (PySem.W.mg_of X G a2) k2 3, b2, PySem.W.mg_of X G a2, k2⟩
  have F_look_spots : FnAt l.prog w K mg base "look_spots" 1 spLook := ⟨f3, _, _, ok_look_spots F3 T , b3, PySem.W.mg_of X G a3, k3⟩
  have F_is_span : FnAt l.prog w K mg base "is_span" 1 spSpan := ⟨f4, _, _, ok_is_span F4 T , b4, PySem.W.mg_of X G a4, k4⟩
  have F_numbers_fit : FnAt l.prog w K mg base "numbers_fit" 2 spFit := ⟨f5, _, _, ok_numbers_fit F5 T F_is_span, b5, PySem.W.mg_of X G a5, k5⟩
  have F_look_call : FnAt l.prog w K mg base "look_call" 3 spCall := ⟨f6, _, _, ok_look_call F6 T F_look_spots F_numbers_fit, b6, PySem.W.mg_of X G a6, k6⟩
  have F_exchange_places : FnAt l.prog w K mg base "exchange_places" 1 spExch := ⟨f7, _, _, ok_exchange_places F7 T , b7, PySem.W.mg_of X G a7, k7⟩
  have F_still : FnAt l.prog w K mg base "still" 2 spStill := ⟨f8, _, _, ok_still F8 T F_look_spots, b8, PySem.W.mg_of X G a8, k8⟩
  have F_ring_places : FnAt l.prog w K mg base "ring_places" 2 spRing := ⟨f9, _, _, ok_ring_places F9 T F_look_spots F_is_span, b9, PySem.W.mg_of X G a9, k9⟩
  have F_look_way : FnAt l.prog w K mg base "look_way" 1 spLWay := ⟨f10, _, _, ok_look_way F10 T , b10, PySem.W.mg_of X G a10, k10⟩
  have F_undone : FnAt l.prog w K mg base "undone" 3 spUndone := ⟨f11, _, _, ok_undone F11 T F_look_spots F_look_way F_still, b11, PySem.W.mg_of X G a11, k11⟩
  have F_cast_way : FnAt l.prog w K mg base "cast_way" 3 spCast := ⟨f12, _, _, ok_cast_way F12 T F_still, b12, PySem.W.mg_of X G a12, k12⟩
  have F_round_way : FnAt l.prog w K mg base "round_way" 3 spRoundW := ⟨f13, _, _, ok_round_way F13 T F_ring_places F_still, b13, PySem.W.mg_of X G a13, k13⟩
  have F_exchange_way : FnAt l.prog w K mg base "exchange_way" 3 spExchW := ⟨f14, _, _, ok_exchange_way F14 T F_still F_exchange_places, b14, PySem.W.mg_of X G a14, k14⟩
  have F_call_way : FnAt l.prog w K mg base "call_way" 4 spWay := ⟨f15, _, _, ok_call_way F15 T F_look_call F_still F_round_way F_cast_way F_undone F_exchange_way, b15, PySem.W.mg_of X G a15, k15⟩
  have F__law_ring : FnAt l.prog w K mg base "_law_ring" 1 spLRing := ⟨f16, _, _, ok__law_ring F16 T , b16, PySem.W.mg_of X G a16, k16⟩
  have F__law_ring_swaps : FnAt l.prog w K mg base "_law_ring_swaps" 2 spRSw := ⟨f17, _, _, ok__law_ring_swaps F17 T F__law_ring, b17, PySem.W.mg_of X G a17, k17⟩
  have F__law_swaps : FnAt l.prog w K mg base "_law_swaps" 3 spLSw := ⟨f18, _, _, ok__law_swaps F18 T F__law_ring_swaps, b18, PySem.W.mg_of X G a18, k18⟩
  have F_taken : FnAt l.prog w K mg base "taken" 4 spTaken := ⟨f19, _, _, ok_taken F19 T F_look_call F_exchange_places, b19, PySem.W.mg_of X G a19, k19⟩
  have F_beats : FnAt l.prog w K mg base "beats" 4 spBeats := ⟨f20, _, _, ok_beats F20 T F_look_call, b20, PySem.W.mg_of X G a20, k20⟩
  have F_look_bar : FnAt l.prog w K mg base "look_bar" 5 spLookBar := ⟨f21, _, _, ok_look_bar F21 T F_look_spots F_taken, b21, PySem.W.mg_of X G a21, k21⟩
  have F_then : FnAt l.prog w K mg base "then" 2 spThen := ⟨f22, _, _, ok_then F22 T F_look_spots F_look_way, b22, PySem.W.mg_of X G a22, k22⟩
  have F_row_way : FnAt l.prog w K mg base "row_way" 3 spRow := ⟨f23, _, _, ok_row_way F23 T F_still F_then, b23, PySem.W.mg_of X G a23, k23⟩
  have F_bar_way : FnAt l.prog w K mg base "bar_way" 6 spBarWay := ⟨f24, _, _, ok_bar_way F24 T F_look_bar F_call_way F_row_way, b24, PySem.W.mg_of X G a24, k24⟩
  have F_bar_beats : FnAt l.prog w K mg base "bar_beats" 6 spBarBeats := ⟨f25, _, _, ok_bar_beats F25 T F_look_bar F_beats, b25, PySem.W.mg_of X G a25, k25⟩
  have F__law_takes : FnAt l.prog w K mg base "_law_takes" 4 spLTk := ⟨f26, _, _, ok__law_takes F26 T F__law_swaps, b26, PySem.W.mg_of X G a26, k26⟩
  have F__law_spots : FnAt l.prog w K mg base "_law_spots" 1 spSpots := ⟨f27, _, _, ok__law_spots F27 T , b27, PySem.W.mg_of X G a27, k27⟩
  have F__law_call : FnAt l.prog w K mg base "_law_call" 1 spMk := ⟨f28, _, _, ok__law_call F28 T , b28, PySem.W.mg_of X G a28, k28⟩
  have F__law_loose_bar : FnAt l.prog w K mg base "_law_loose_bar" 2 spLoose := ⟨f29, _, _, ok__law_loose_bar F29 T F__law_call, b29, PySem.W.mg_of X G a29, k29⟩
  have F__law_bar : FnAt l.prog w K mg base "_law_bar" 5 spLBar := ⟨f30, _, _, ok__law_bar F30 T F__law_loose_bar F__law_takes, b30, PySem.W.mg_of X G a30, k30⟩
  have F_look_figure : FnAt l.prog w K mg base "look_figure" 6 spLookFig := ⟨f31, _, _, ok_look_figure F31 T F_look_spots F_look_bar, b31, PySem.W.mg_of X G a31, k31⟩
  have F_figure_way : FnAt l.prog w K mg base "figure_way" 7 spFigWay := ⟨f32, _, _, ok_figure_way F32 T F_look_figure F_bar_way F_row_way, b32, PySem.W.mg_of X G a32, k32⟩
  have F_figure_beats : FnAt l.prog w K mg base "figure_beats" 7 spFigBeats := ⟨f33, _, _, ok_figure_beats F33 T F_look_figure F_bar_beats, b33, PySem.W.mg_of X G a33, k33⟩
  have F__law_figure : FnAt l.prog w K mg base "_law_figure" 6 spLFig := ⟨f34, _, _, ok__law_figure F34 T F__law_bar, b34, PySem.W.mg_of X G a34, k34⟩
  have F_turned_call : FnAt l.prog w K mg base "turned_call" 4 spTurn := ⟨f35, _, _, ok_turned_call F35 T F_look_call, b35, PySem.W.mg_of X G a35, k35⟩
  have F_turned : FnAt l.prog w K mg base "turned" 7 spTurned := ⟨f36, _, _, ok_turned F36 T F_look_figure F_turned_call, b36, PySem.W.mg_of X G a36, k36⟩
  exact ok_law F37 T F__law_numbers F__law_spots F__law_figure F_figure_way F_turned F_undone F_still F_then F_figure_beats F__law_same
theorem walk {l : PySem.W.OpenLaw} {q : Program} {loose : List Str} {XP : (Str → Option Value) → Heap → Prop} {YP : World → Heap → Prop} {d : DefRec} {K : Params → PySem.W.Frag} (hn : l.most = some 63) (hdf : d.params.defaults = [])
    (hY : ∀ (w : World) (h : Heap), YP w h → (K w.params).In h)
    (F : ∀ (w : World) (mg : Str → Option Value) (fa : Addr) (h : Heap), (K w.params).In h → h.Ns mainGlobals mg → mg d.name = some (.ref fa) →
      ∃ fd : FuncData, (∀ (s : Shared) (u : Value), BindsTo s fd ⟨[u], []⟩ [("_law_script", u)]) ∧ ∀ base : Heap, (K w.params).In base → base.Ns mainGlobals mg → FnOk l.prog w (K w.params) mg base CX0 8 fa fd ["_law_script"] (spLaw (K w.params))) :
    PySem.W.WalkO q loose XP YP l.row.toRowW d [] (fun f vs => PySem.call f vs) :=
  L2.walk_of (n := 63) (k := 8) (x := "_law_script") (CX := fun _ => CX0) (sp := fun w => spLaw (K w.params)) hn (by decide) hdf ⟨rfl, by decide, by decide⟩ hY F (fun _ _ a ns hl _ hS => ⟨a, ns, rfl, hS, hl, fun _ => rfl⟩) fun _ _ _ _ _ z => z

end T12
open PySem PySem.W PyProof.Rows
set_option maxRecDepth 100000 in
set_option maxHeartbeats 0 in
theorem PySem.Challenge.cw_longways_k12_whole_figures_and_back_holds : PySem.Challenge.rw_longways_k12_whole_figures_and_back.Holds := by
  w_on; o_law; k_head; (case hw => w_witness2)
  k_fill
  refine T12.walk (l := PySem.Challenge.rw_longways_k12_whole_figures_and_back) rfl rfl (fun w h Y => PySem.W.kIn_of Y) ?F
  case F =>
    intro w mg fa h KX G hmg
    refine' T12.all_mk KX G hmg ?a1 ?l1 ?c1 ?k1 ?a2 ?l2 ?c2 ?k2 ?a3 ?l3 ?c3 ?k3 ?a4 ?l4 ?c4 ?k4 ?a5 ?l5 ?c5 ?k5 ?a6 ?l6 ?c6 ?k6 ?a7 ?l7 ?c7 ?k7 ?a8 ?l8 ?c8 ?k8 ?a9 ?l9 ?c9 ?k9 ?a10 ?l10 ?c10 ?k10 ?a11 ?l11 ?c11 ?k11 ?a12 ?l12 ?c12 ?k12 ?a13 ?l13 ?c13 ?k13 ?a14 ?l14 ?c14 ?k14 ?a15 ?l15 ?c15 ?k15 ?a16 ?l16 ?c16 ?k16 ?a17 ?l17 ?c17 ?k17 ?a18 ?l18 ?c18 ?k18 ?a19 ?l19 ?c19 ?k19 ?a20 ?l20 ?c20 ?k20 ?a21 ?l21 ?c21 ?k21 ?a22 ?l22 ?c22 ?k22 ?a23 ?l23 ?c23 ?k23 ?a24 ?l24 ?c24 ?k24 ?a25 ?l25 ?c25 ?k25 ?a26 ?l26 ?c26 ?k26 ?a27 ?l27 ?c27 ?k27 ?a28 ?l28 ?c28 ?k28 ?a29 ?l29 ?c29 ?k29 ?a30 ?l30 ?c30 ?k30 ?a31 ?l31 ?c31 ?k31 ?a32 ?l32 ?c32 ?k32 ?a33 ?l33 ?c33 ?k33 ?a34 ?l34 ?c34 ?k34 ?a35 ?l35 ?c35 ?k35 ?a36 ?l36 ?c36 ?k36 ?a37 ?l37 ?c37 ?k37 ?z_isinstance ?z_list ?z_tuple ?z_len ?z_all ?z_range ?z_bool ?z_str ?z_int ?z_abs ?z_sorted ?z_enumerate ?z_sum ?z_max ?z_any ?z_zip ?z_reversed ?v_FEWEST_SPOTS ?v_MOST_SPOTS ?v_MOST_MANY ?v_MOST_CALLS ?v_MOST_BARS ?vC ?sC ?lC
    (case a1 => k_is)
    (case l1 => k_is)
    (case c1 => k_is)
    (case k1 => k_is)
    (case a2 => k_is)
    (case l2 => k_is)
    (case c2 => k_is)
    (case k2 => k_is)
    (case a3 => k_is)
    (case l3 => k_is)
    (case c3 => k_is)
    (case k3 => k_is)
    (case a4 => k_is)
    (case l4 => k_is)
    (case c4 => k_is)
    (case k4 => k_is)
    (case a5 => k_is)
    (case l5 => k_is)
    (case c5 => k_is)
    (case k5 => k_is)
    (case a6 => k_is)
    (case l6 => k_is)
    (case c6 => k_is)
    (case k6 => k_is)
    (case a7 => k_is)
    (case l7 => k_is)
    (case c7 => k_is)
    (case k7 => k_is)
    (case a8 => k_is)
    (case l8 => k_is)
    (case c8 => k_is)
    (case k8 => k_is)
    (case a9 => k_is)
    (case l9 => k_is)
    (case c9 => k_is)
    (case k9 => k_is)
    (case a10 => k_is)
    (case l10 => k_is)
    (case c10 => k_is)
    (case k10 => k_is)
    (case a11 => k_is)
    (case l11 => k_is)
    (case c11 => k_is)
    (case k11 => k_is)
    (case a12 => k_is)
    (case l12 => k_is)
    (case c12 => k_is)
    (case k12 => k_is)
    (case a13 => k_is)
    (case l13 => k_is)
    (case c13 => k_is)
    (case k13 => k_is)
    (case a14 => k_is)
    (case l14 => k_is)
    (case c14 => k_is)
    (case k14 => k_is)
    (case a15 => k_is)
    (case l15 => k_is)
    (case c15 => k_is)
    (case k15 => k_is)
    (case a16 => k_is)
    (case l16 => k_is)
    (case c16 => k_is)
    (case k16 => k_is)
    (case a17 => k_is)
    (case l17 => k_is)
    (case c17 => k_is)
    (case k17 => k_is)
    (case a18 => k_is)
    (case l18 => k_is)
    (case c18 => k_is)
    (case k18 => k_is)
    (case a19 => k_is)
    (case l19 => k_is)
    (case c19 => k_is)
    (case k19 => k_is)
    (case a20 => k_is)
    (case l20 => k_is)
    (case c20 => k_is)
    (case k20 => k_is)
    (case a21 => k_is)
    (case l21 => k_is)
    (case c21 => k_is)
    (case k21 => k_is)
    (case a22 => k_is)
    (case l22 => k_is)
    (case c22 => k_is)
    (case k22 => k_is)
    (case a23 => k_is)
    (case l23 => k_is)
    (case c23 => k_is)
    (case k23 => k_is)
    (case a24 => k_is)
    (case l24 => k_is)
    (case c24 => k_is)
    (case k24 => k_is)
    (case a25 => k_is)
    (case l25 => k_is)
    (case c25 => k_is)
    (case k25 => k_is)
    (case a26 => k_is)
    (case l26 => k_is)
    (case c26 => k_is)
    (case k26 => k_is)
    (case a27 => k_is)
    (case l27 => k_is)
    (case c27 => k_is)
    (case k27 => k_is)
    (case a28 => k_is)
    (case l28 => k_is)
    (case c28 => k_is)
    (case k28 => k_is)
    (case a29 => k_is)
    (case l29 => k_is)
    (case c29 => k_is)
    (case k29 => k_is)
    (case a30 => k_is)
    (case l30 => k_is)
    (case c30 => k_is)
    (case k30 => k_is)
    (case a31 => k_is)
    (case l31 => k_is)
    (case c31 => k_is)
    (case k31 => k_is)
    (case a32 => k_is)
    (case l32 => k_is)
    (case c32 => k_is)
    (case k32 => k_is)
    (case a33 => k_is)
    (case l33 => k_is)
    (case c33 => k_is)
    (case k33 => k_is)
    (case a34 => k_is)
    (case l34 => k_is)
    (case c34 => k_is)
    (case k34 => k_is)
    (case a35 => k_is)
    (case l35 => k_is)
    (case c35 => k_is)
    (case k35 => k_is)
    (case a36 => k_is)
    (case l36 => k_is)
    (case c36 => k_is)
    (case k36 => k_is)
    (case a37 => k_is)
    (case l37 => k_is)
    (case c37 => k_is)
    (case k37 => k_is)
    (case z_isinstance => k_is)
    (case z_list => k_is)
    (case z_tuple => k_is)
    (case z_len => k_is)
    (case z_all => k_is)
    (case z_range => k_is)
    (case z_bool => k_is)
    (case z_str => k_is)
    (case z_int => k_is)
    (case z_abs => k_is)
    (case z_sorted => k_is)
    (case z_enumerate => k_is)
    (case z_sum => k_is)
    (case z_max => k_is)
    (case z_any => k_is)
    (case z_zip => k_is)
    (case z_reversed => k_is)
    (case v_FEWEST_SPOTS => k_is)
    (case v_MOST_SPOTS => k_is)
    (case v_MOST_MANY => k_is)
    (case v_MOST_CALLS => k_is)
    (case v_MOST_BARS => k_is)
    (case vC => k_is)
    (case sC => first | k_is | rfl)
    (case lC => k_is)


