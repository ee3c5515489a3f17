import PyProof.Rows.All
import Wide.All
import OpenK.AllK
import Wide.FinOn
import Lean
import PyProof.EqAt
import PyProof.EqKinds
import PyProof.TupleCall
import PySem.Challenge.RW_longways_k11_figures_turned_about
set_option Elab.async false
set_option linter.all false
set_option maxRecDepth 100000
section
-- CHANGE: your row's module here, as the last of these rows
namespace L2
open PySem PySem.Spec PyProof.Rows

abbrev Key := Sum Int Str
def keyIs : Key → Value → Bool
  | .inl k, v => Value.isInt k v
  | .inr x, v => Value.isStrOf x v
def keyH (w : World) : Key → Int
  | .inl k => hashInt k
  | .inr x => hashStr w x
theorem keyIs_shape : ∀ {k : Key} {v : Value}, keyIs k v = true → (∃ i t, k = Sum.inl i ∧ v = Value.int i t) ∨ (∃ x t, k = Sum.inr x ∧ v = Value.str x t)
  | .inl i, v, h => by
    obtain ⟨t, e⟩ := Value.isInt_shape (k := i) (v := v) h
    exact .inl ⟨i, t, rfl, e⟩
  | .inr x, v, h => by
    obtain ⟨t, e⟩ := Value.isStrOf_shape (x := x) (v := v) h
    exact .inr ⟨x, t, rfl, e⟩
theorem keyIs_int (i : Int) (t : Tok) : keyIs (.inl i) (.int i t) = true := by simp [keyIs, Value.isInt]
theorem keyIs_str (x : Str) (t : Tok) : keyIs (.inr x) (.str x t) = true := by simp [keyIs, Value.isStrOf]
theorem key_ll (a b : Int) : decide ((Sum.inl a : Key) = Sum.inl b) = (a == b) := by
  by_cases e : a = b
  · subst e; simp
  · have h : ¬ (Sum.inl a : Key) = Sum.inl b := fun q => e (Sum.inl.inj q)
    rw [decide_eq_false h]
    exact (beq_eq_false_iff_ne.mpr e).symm
theorem key_rr (a b : Str) : decide ((Sum.inr a : Key) = Sum.inr b) = decide (a = b) := by
  by_cases e : a = b
  · subst e; simp
  · have h : ¬ (Sum.inr a : Key) = Sum.inr b := fun q => e (Sum.inr.inj q)
    rw [decide_eq_false h, decide_eq_false e]
theorem key_lr (a : Int) (b : Str) : decide ((Sum.inl a : Key) = Sum.inr b) = false := decide_eq_false (fun q => nomatch q)
theorem key_rl (a : Str) (b : Int) : decide ((Sum.inr a : Key) = Sum.inl b) = false := decide_eq_false (fun q => nomatch q)

def mixKind (prog : Program) (w : World) : PySem.KeyKind prog w Key where
  is := keyIs
  hash := keyH w
  inj := fun v a b ha hb => by
    rcases keyIs_shape ha with ⟨i, t, rfl, rfl⟩ | ⟨x, t, rfl, rfl⟩
    · rcases keyIs_shape hb with ⟨j, u, rfl, e⟩ | ⟨y, u, rfl, e⟩
      · injection e with e1 _; rw [e1]
      · exact nomatch e
    · rcases keyIs_shape hb with ⟨j, u, rfl, e⟩ | ⟨y, u, rfl, e⟩
      · exact nomatch e
      · injection e with e1 _; rw [e1]
  byValue := fun k v h => by
    rcases keyIs_shape h with ⟨i, t, rfl, rfl⟩ | ⟨x, t, rfl, rfl⟩ <;> rfl
  pyHash := fun hv h => by
    rcases keyIs_shape hv with ⟨i, t, rfl, rfl⟩ | ⟨x, t, rfl, rfl⟩
    · exact wpAny_pyHash_int h
    · exact wpAny_pyHash_str h
  eqBool := fun hu hv h => by
    rcases keyIs_shape hu with ⟨i, t, rfl, rfl⟩ | ⟨x, t, rfl, rfl⟩
    · rcases keyIs_shape hv with ⟨j, u, rfl, rfl⟩ | ⟨y, u, rfl, rfl⟩
      · rw [key_ll] at h; exact wpAny_eqBool_int h
      · rw [key_lr] at h; exact SeqAt.EqAt.int_str i t y u _ _ _ _ h
    · rcases keyIs_shape hv with ⟨j, u, rfl, rfl⟩ | ⟨y, u, rfl, rfl⟩
      · rw [key_rl] at h; exact SeqAt.EqAt.str_int x t j u _ _ _ _ h
      · rw [key_rr] at h; exact wpAny_eqBool_str h
  «strs» := fun k x t v h => by
    rcases keyIs_shape h with ⟨i, u, rfl, e⟩ | ⟨y, u, rfl, e⟩
    · exact nomatch e
    · injection e with e1 _
      subst e1
      cases v <;> rfl

theorem mixKind_int (prog : Program) (w : World) (i : Int) (t : Tok) : (mixKind prog w).is (.inl i) (.int i t) = true := keyIs_int i t
theorem mixKind_str (prog : Program) (w : World) (x : Str) (t : Tok) : (mixKind prog w).is (.inr x) (.str x t) = true := keyIs_str x t
end L2

namespace L2
open PySem PySem.Spec PyProof.Rows

inductive V where
  | non | bl (b : Bool) | int (i : Int) | str (x : Str) | byt (b : Array UInt8) | flt (b : UInt64) | ref (a : Addr) | ty (n : String)
  deriving DecidableEq

def RelV : V → Value → Prop
  | .non, u => u = Value.none
  | .bl b, u => u = Value.bool b
  | .int i, u => ∃ t, u = Value.int i t
  | .str x, u => ∃ t, u = Value.str x t
  | .byt b, u => ∃ t, u = Value.bytes b t
  | .flt b, u => ∃ t, u = Value.float b t
  | .ref a, u => u = Value.ref a
  | .ty n, u => u = Value.type n

abbrev Vals : List V → List Value → Prop := Paired RelV
theorem Vals.length {xs : List V} {us : List Value} (r : Vals xs us) : xs.length = us.length := Paired.length r
theorem Vals.get : ∀ {xs : List V} {us : List Value} {i : Nat} {x : V}, Vals xs us → xs[i]? = some x → ∃ u, us[i]? = some u ∧ RelV x u
  | _, _, _, _, .nil, e => by simp at e
  | _, _, 0, _, .cons r _, e => by simp at e; subst e; exact ⟨_, rfl, r⟩
  | _, _, i + 1, x, .cons _ t, e => by
    obtain ⟨u, h1, h2⟩ := Vals.get (i := i) (x := x) t (by simpa using e)
    exact ⟨u, by simpa using h1, h2⟩
theorem Vals.set {x : V} {u : Value} (r : RelV x u) : ∀ {xs : List V} {us : List Value} (i : Nat), Vals xs us → Vals (xs.set i x) (us.set i u)
  | _, _, _, .nil => .nil
  | _, _, 0, .cons _ t => .cons r t
  | _, _, i + 1, .cons q t => .cons q (Vals.set r i t)
theorem Vals.append : ∀ {xs ys : List V} {us ws : List Value}, Vals xs us → Vals ys ws → Vals (xs ++ ys) (us ++ ws)
  | _, _, _, _, .nil, s => s
  | _, _, _, _, .cons r t, s => .cons r (Vals.append t s)
theorem Vals.take : ∀ {xs : List V} {us : List Value} (n : Nat), Vals xs us → Vals (xs.take n) (us.take n)
  | _, _, 0, _ => .nil
  | _, _, _ + 1, .nil => .nil
  | _, _, n + 1, .cons r t => .cons r (Vals.take n t)
theorem Vals.drop : ∀ {xs : List V} {us : List Value} (n : Nat), Vals xs us → Vals (xs.drop n) (us.drop n)
  | _, _, 0, r => r
  | _, _, _ + 1, .nil => .nil
  | _, _, n + 1, .cons _ t => Vals.drop n t
def RelO : Option V → Option Value → Prop
  | some v, some u => RelV v u
  | none, none => True
  | _, _ => False
def KV {κ : Type} : List (κ × V) → List (κ × Value) → Prop := Paired fun (p : κ × V) (q : κ × Value) => p.1 = q.1 ∧ RelV p.2 q.2

def kV : Key → V
  | .inl i => .int i
  | .inr x => .str x

inductive HO where
  /-- a list -/
  | lst (xs : List V)
  /-- a tuple (never changes) -/
  | tup (xs : List V)
  /-- a dict whose keys are ints and texts; one whose keys are tuples of ints and texts (the empty one is both) -/
  | dK (kvs : List (Key × V)) | dT (kvs : List (List Key × V))
  /-- a set of ints: its members, its size -/
  | set (S : Int → Bool) (n : Nat)
  /-- an instance of the class at C, its dict at dx, its attributes -/
  | ins (C dx : Addr) (fs : List (Str × V))
  /-- the dict of the instance at x -/
  | own (x : Addr)
  /-- the dict of an exception -/
  | xd (fs : List (Str × V))
  /-- a bound method, f of x -/
  | met (f x : Addr)
  /-- a range object lo, lo + 1, .. below hi -/
  | rng (lo hi : Int)
  /-- a thing that is known to the object (the script; a dict while a loop walks it): read, never written while it is so -/
  | frz (o : Obj) (u : HO)
  /-- a code object's table -/
  | tbl (ps : Array Value)
  /-- any other thing, by what is true of its one object (a def of one's own: SetO a S n := HO.ext fun h => ..) -/
  | ext (φ : Heap → Prop)

abbrev Hp := Addr → Option HO
def upd (H : Hp) (a : Addr) (o : HO) : Hp := fun b => if b = a then some o else H b
theorem upd_same {H : Hp} {a : Addr} {o : HO} : upd H a o a = some o := by unfold upd; rw [if_pos rfl]
theorem upd_ne {H : Hp} {a b : Addr} {o : HO} (h : b ≠ a) : upd H a o b = H b := by unfold upd; rw [if_neg h]
theorem upd_upd {H : Hp} {a : Addr} {o u : HO} : upd (upd H a o) a u = upd H a u := by
  funext b; unfold upd; split <;> rfl
theorem ne_of_none {H : Hp} {a b : Addr} {o : HO} (h : H a = some o) (h' : H b = none) : a ≠ b := by
  intro e; subst e; rw [h] at h'; cases h'

section
variable (P : Program) (w : World)
def ObjOk (H : Hp) (h : Heap) (a : Addr) : HO → Prop
  | .lst xs => xs.length ≤ sizeLine ∧ ∃ (its : List Value) (n : Nat), Vals xs its ∧ h.get? a = some { cls := .type "list", data := .seq its.toArray n }
  | .tup xs => xs.length ≤ sizeLine ∧ ∃ its : List Value, Vals xs its ∧ IsTup h a its.toArray
  | .dK kvs => kvs.length ≤ sizeLine ∧ (a == sysModules) = false ∧ ∃ vs, KV kvs vs ∧ h.DictOf (mixKind P w) a vs
  | .dT kvs => kvs.length ≤ sizeLine ∧ (a == sysModules) = false ∧ ∃ xs : List (List Key × Addr × Value),
      Paired (fun (p : List Key × V) (q : List Key × Addr × Value) => p.1 = q.1 ∧ H q.2.1 = some (.tup (p.1.map kV)) ∧ RelV p.2 q.2.2) kvs xs ∧
      ∃ o es ep, h.get? a = some o ∧ o.ExactDict ∧ o.data = .dict es ep ∧ es.toList = xs.map (entryOfKey (tupleKind (mixKind P w))) ∧ (xs.map (·.1)).Nodup
  | .set S n => h.SetOf (intKind P w) a S n
  | .ins C dx fs => H dx = some (.own a) ∧ fs.length ≤ 1000 ∧ dx ≠ a ∧ h.get? a = some (PySem.W.instObj C dx) ∧
      ∃ mA, h.Ns1 dx mA ∧ (∀ f, RelO (fs.lookup f) (mA f)) ∧ PySem.Within mA (fs.map (·.1))
  | .own _ => ∃ o, h.get? a = some o
  | .xd fs => ∃ mA, h.Ns1 a mA ∧ ∀ f, RelO (fs.lookup f) (mA f)
  | .rng lo hi => ∃ t u v, h.get? a = some { cls := .type "range", data := .fields #[.int lo t, .int hi u, .int 1 v] }
  | .frz o u => h.get? a = some o ∧ ObjOk H h a u
  | .tbl ps => h.get? a = some { cls := .none, data := .fields ps }
  | .met f x => h.get? a = some (PySem.W.methodObj (.ref f) (.ref x))
  | .ext φ => φ h ∧ (∃ o, h.get? a = some o) ∧ ∀ h1 h2 : Heap, φ h1 → (∀ o, h1.get? a = some o → h2.get? a = some o) → φ h2
def HOk (H : Hp) (h : Heap) : Prop := ∀ a o, H a = some o → ObjOk P w H h a o
end

section
variable {P : Program} {w : World} {H H' : Hp} {h h' : Heap} {a : Addr} {o : HO}
theorem ObjOk.lt (x : ObjOk P w H h a o) : a < h.objs.size := by
  cases o with
  | lst xs => obtain ⟨_, _, _, _, e⟩ := x; exact Heap.lt_size e
  | tup xs => obtain ⟨_, _, _, p⟩ := x; exact p.lt
  | dK kvs => obtain ⟨_, _, _, _, o, _, _, e, _⟩ := x; exact Heap.lt_size e
  | dT kvs => obtain ⟨_, _, _, _, o, _, _, e, _⟩ := x; exact Heap.lt_size e
  | set S n => obtain ⟨o, _, _, _, e, _⟩ := x; exact Heap.lt_size e
  | ins C dx fs => obtain ⟨_, _, _, e, _⟩ := x; exact Heap.lt_size e
  | own y => obtain ⟨_, e⟩ := x; exact Heap.lt_size e
  | xd fs => obtain ⟨_, ⟨_, _, _, e, _⟩, _⟩ := x; exact Heap.lt_size e
  | rng lo hi => obtain ⟨_, _, _, e⟩ := x; exact Heap.lt_size e
  | frz ob u => obtain ⟨e, _⟩ := x; exact Heap.lt_size e
  | tbl ps => exact Heap.lt_size (show h.get? a = some _ from x)
  | met f y => exact Heap.lt_size (show h.get? a = some _ from x)
  | ext φ => obtain ⟨_, ⟨_, e⟩, _⟩ := x; exact Heap.lt_size e
theorem Paired.mapP {α β : Type} {F G : α → β → Prop} : ∀ {l₁ : List α} {l₂ : List β}, Paired F l₁ l₂ → (∀ a b, F a b → G a b) → Paired G l₁ l₂
  | _, _, .nil, _ => .nil
  | _, _, .cons r t, f => .cons (f _ _ r) (Paired.mapP t f)
theorem ObjOk.stay (x : ObjOk P w H h a o) (k : ∀ b u, (b = a ∨ H b = some (.own a)) → h.get? b = some u → h'.get? b = some u)
    (ho : ∀ b, H b = some (.own a) → H' b = some (.own a)) (ht : ∀ b xs, H b = some (.tup xs) → H' b = some (.tup xs)) : ObjOk P w H' h' a o := by
  induction o with
  | lst xs => obtain ⟨z, its, n, r, e⟩ := x; exact ⟨z, its, n, r, k _ _ (.inl rfl) e⟩
  | tup xs => obtain ⟨z, its, r, ob, e, c⟩ := x; exact ⟨z, its, r, ob, k _ _ (.inl rfl) e, c⟩
  | dK kvs => obtain ⟨z, y, vs, r, ob, es, ep, e, c⟩ := x; exact ⟨z, y, vs, r, ob, es, ep, k _ _ (.inl rfl) e, c⟩
  | dT kvs =>
    obtain ⟨z, y, xs, r, ob, es, ep, e, c⟩ := x
    exact ⟨z, y, xs, Paired.mapP r fun p q z => ⟨z.1, ht _ _ z.2.1, z.2.2⟩, ob, es, ep, k _ _ (.inl rfl) e, c⟩
  | set S n => obtain ⟨ob, es, ep, t, e, c⟩ := x; exact ⟨ob, es, ep, t, k _ _ (.inl rfl) e, c⟩
  | ins C dx fs =>
    obtain ⟨d, z, ne, e, mA, ⟨od, es, ep, e2, c⟩, r⟩ := x
    exact ⟨ho _ d, z, ne, k _ _ (.inl rfl) e, mA, ⟨od, es, ep, k _ _ (.inr d) e2, c⟩, r⟩
  | own y => obtain ⟨ob, e⟩ := x; exact ⟨ob, k _ _ (.inl rfl) e⟩
  | xd fs => obtain ⟨mA, ⟨od, es, ep, e, c⟩, r⟩ := x; exact ⟨mA, ⟨od, es, ep, k _ _ (.inl rfl) e, c⟩, r⟩
  | rng lo hi => obtain ⟨t, u, v, e⟩ := x; exact ⟨t, u, v, k _ _ (.inl rfl) e⟩
  | frz ob u ih => obtain ⟨e, q⟩ := x; exact ⟨k _ _ (.inl rfl) e, ih q⟩
  | tbl ps =>
    have e : h.get? a = some { cls := .none, data := .fields ps } := x
    show h'.get? a = some { cls := .none, data := .fields ps }
    exact k a _ (.inl rfl) e
  | met f y =>
    have e : h.get? a = some (PySem.W.methodObj (.ref f) (.ref y)) := x
    show h'.get? a = some (PySem.W.methodObj (.ref f) (.ref y))
    exact k a _ (.inl rfl) e
  | ext φ => obtain ⟨p, ⟨o, e⟩, st⟩ := x; exact ⟨st _ _ p fun o q => k _ _ (.inl rfl) q, ⟨o, k _ _ (.inl rfl) e⟩, st⟩
theorem HOk.lt (x : HOk P w H h) (e : H a = some o) : a < h.objs.size := (x a o e).lt
theorem HOk.fresh (x : HOk P w H h) (e : h.objs.size ≤ a) : H a = none := by
  cases q : H a with
  | none => rfl
  | some u => exact absurd (Nat.lt_of_lt_of_le (x.lt q) e) (Nat.lt_irrefl _)
theorem HOk.kept (x : HOk P w H h) (k : ∀ b u, h.get? b = some u → h'.get? b = some u) : HOk P w H h' := fun a o e =>
  (x a o e).stay (fun b u _ q => k b u q) (fun _ q => q) fun _ _ q => q
theorem HOk.laid (x : HOk P w H h) (k : ∀ b u, h.get? b = some u → h'.get? b = some u) (hp : h.objs.size ≤ a) (new : ObjOk P w (upd H a o) h' a o) : HOk P w (upd H a o) h' := fun b u e => by
  have hn := x.fresh hp
  by_cases hb : b = a
  · subst hb; rw [upd_same] at e; cases e; exact new
  · rw [upd_ne hb] at e
    exact (x b u e).stay (fun c v _ q => k c v q) (fun c q => by rw [upd_ne (ne_of_none q hn)]; exact q) fun c xs q => by rw [upd_ne (ne_of_none q hn)]; exact q
end

def Rd (H : Hp) (a : Addr) (u : HO) : Prop := H a = some u ∨ ∃ o, H a = some (.frz o u)
theorem Rd.of {H : Hp} {a : Addr} {u : HO} (h : H a = some u) : Rd H a u := .inl h
theorem Rd.ok {P : Program} {w : World} {H : Hp} {h : Heap} {a : Addr} {u : HO} (r : Rd H a u) (x : HOk P w H h) : ObjOk P w H h a u := by
  rcases r with r | ⟨o, r⟩
  · exact x a u r
  · obtain ⟨_, q⟩ := x a _ r
    exact q
def Mut : Option HO → Prop
  | some (.lst _) => True
  | some (.dK _) => True
  | some (.dT _) => True
  | some (.set _ _) => True
  | some (.ins _ _ _) => True
  | some (.ext _) => True
  | _ => False
section
variable {P : Program} {w : World} {H : Hp} {h h' : Heap} {x e : Addr} {o' : HO}
theorem HOk.write (ok : HOk P w H h) (mu : Mut (H x)) (he : e = x ∨ H e = some (.own x)) (k : ∀ b u, b ≠ e → h.get? b = some u → h'.get? b = some u) (heo : ∃ u, h'.get? e = some u)
    (new : ObjOk P w (upd H x o') h' x o') : HOk P w (upd H x o') h' := fun b u q => by
  have nown : ∀ c y, H c = some (.own y) → c ≠ x := fun c y r z => by subst z; rw [r] at mu; exact mu
  have ntup : ∀ c xs, H c = some (.tup xs) → c ≠ x := fun c xs r z => by subst z; rw [r] at mu; exact mu
  by_cases hb : b = x
  · subst hb; rw [upd_same] at q; cases q; exact new
  · rw [upd_ne hb] at q
    by_cases hbe : b = e
    · have q' : H b = some (.own x) := by
        rcases he with z | z
        · exact absurd (hbe.trans z) hb
        · rw [hbe]; exact z
      rw [q] at q'; cases q'
      obtain ⟨v, hv⟩ := heo
      exact ⟨v, by rw [hbe]; exact hv⟩
    · refine (ok b u q).stay (fun c v hc r => k c v ?_ r) (fun c r => by rw [upd_ne (nown c b r)]; exact r) fun c xs r => by rw [upd_ne (ntup c xs r)]; exact r
      rcases hc with rfl | hc
      · exact hbe
      · rintro rfl
        rcases he with z | z
        · exact nown c b hc z
        · rw [hc] at z; cases z; exact hb rfl
end

structure Un (fs ex : List Addr) (H H' : Hp) (h h' : Heap) : Prop where
  keep : ∀ b o, h.get? b = some o → H b = none → b ∉ fs → b ∉ ex → h'.get? b = some o
  slot : ∀ b o, h.get? b = some o → H b = none → b ∈ fs → b ∉ ex → ∃ sl, h'.get? b = some { o with slots := sl }
  free : ∀ b o, h.get? b = some o → H b = none → b ∉ ex → H' b = none
  there : ∀ b o, h.get? b = some o → b ∉ ex → ∃ o', h'.get? b = some o'
  tups : ∀ b xs, H b = some (.tup xs) → H' b = some (.tup xs)
  frzs : ∀ b o u, H b = some (.frz o u) → H' b = some (.frz o u)
  tbls : ∀ b ps, H b = some (.tbl ps) → ∃ more, H' b = some (.tbl (ps ++ more))
section
variable {fs fs' ex ex' : List Addr} {H H1 H2 : Hp} {h h1 h2 h' : Heap} {a x e : Addr} {o : HO}
theorem Un.any (u : Un fs ex H H1 h h1) {b : Addr} {ob : Obj} (q : h.get? b = some ob) (n : H b = none) (hx : b ∉ ex) : ∃ sl, h1.get? b = some { ob with slots := sl } := by
  by_cases hb : b ∈ fs
  · exact u.slot b ob q n hb hx
  · exact ⟨ob.slots, u.keep b ob q n hb hx⟩
theorem Un.trans (a : Un fs ex H H1 h h1) (b : Un fs ex H1 H2 h1 h2) : Un fs ex H H2 h h2 where
  keep := fun c ob q n hc hx => b.keep c ob (a.keep c ob q n hc hx) (a.free c ob q n hx) hc hx
  slot := fun c ob q n hc hx => by
    obtain ⟨sl, e1⟩ := a.slot c ob q n hc hx
    obtain ⟨sl', e2⟩ := b.slot c _ e1 (a.free c ob q n hx) hc hx
    exact ⟨sl', e2⟩
  free := fun c ob q n hx => by
    obtain ⟨o', e1⟩ := a.there c ob q hx
    exact b.free c o' e1 (a.free c ob q n hx) hx
  there := fun c ob q hx => by
    obtain ⟨o', e1⟩ := a.there c ob q hx
    exact b.there c o' e1 hx
  tups := fun c xs q => b.tups c xs (a.tups c xs q)
  frzs := fun c ob xs q => b.frzs c ob xs (a.frzs c ob xs q)
  tbls := fun c ps q => by
    obtain ⟨m1, e1⟩ := a.tbls c ps q
    obtain ⟨m2, e2⟩ := b.tbls c _ e1
    exact ⟨m1 ++ m2, by rw [e2, Array.append_assoc]⟩
theorem Un.kept (k : ∀ b u, h.get? b = some u → h'.get? b = some u) : Un fs ex H H h h' :=
  ⟨fun b ob q _ _ _ => k b ob q, fun b ob q _ _ _ => ⟨ob.slots, k b ob q⟩, fun _ _ _ n _ => n, fun b ob q _ => ⟨ob, k b ob q⟩, fun _ _ q => q, fun _ _ _ q => q, fun _ ps q => ⟨#[], by rw [q]; simp⟩⟩
theorem Un.refl : Un fs ex H H h h := Un.kept fun _ _ q => q
theorem Un.laid (k : ∀ b u, h.get? b = some u → h'.get? b = some u) (hp : h.objs.size ≤ a) (hn : H a = none) : Un fs ex H (upd H a o) h h' where
  keep := fun b u q _ _ _ => k b u q
  slot := fun b u q _ _ _ => ⟨u.slots, k b u q⟩
  free := fun b u q n _ => by rw [upd_ne (Nat.ne_of_lt (Nat.lt_of_lt_of_le (Heap.lt_size q) hp))]; exact n
  there := fun b u q _ => ⟨u, k b u q⟩
  tups := fun b xs q => by rw [upd_ne (ne_of_none q hn)]; exact q
  frzs := fun b u xs q => by rw [upd_ne (ne_of_none q hn)]; exact q
  tbls := fun b ps q => ⟨#[], by rw [upd_ne (ne_of_none q hn), q]; simp⟩
theorem Un.write (mu : Mut (H x)) (he : e = x ∨ H e = some (.own x)) (k : ∀ b u, b ≠ e → h.get? b = some u → h'.get? b = some u) (heo : ∃ u, h'.get? e = some u) : Un fs ex H (upd H x o) h h' := by
  have hx : ∀ b, H b = none → b ≠ x := fun b n z => by subst z; rw [n] at mu; exact mu
  have hb : ∀ b, H b = none → b ≠ e := fun b n z => by
    subst z
    rcases he with r | r
    · exact hx b n r
    · rw [n] at r; cases r
  have hm : ∀ b u, H b = some u → ¬ Mut (some u) → b ≠ x := fun b u q nm z => by subst z; rw [q] at mu; exact nm mu
  refine ⟨fun b u q n _ _ => k b u (hb b n) q, fun b u q n _ _ => ⟨u.slots, k b u (hb b n) q⟩, fun b u q n _ => by rw [upd_ne (hx b n)]; exact n, fun b u q _ => ?_,
    fun b xs q => by rw [upd_ne (hm b _ q fun z => z)]; exact q, fun b u xs q => by rw [upd_ne (hm b _ q fun z => z)]; exact q, fun b ps q => ⟨#[], by rw [upd_ne (hm b _ q fun z => z), q]; simp⟩⟩
  by_cases hbe : b = e
  · subst hbe; exact heo
  · exact ⟨u, k b u hbe q⟩
theorem Un.mono (u : Un fs ex H H1 h h1) (hs : ∀ b ∈ fs, b ∈ fs') (hx : ∀ b ∈ ex, b ∈ ex') : Un fs' ex' H H1 h h1 :=
  ⟨fun b ob q n hb he => u.keep b ob q n (fun z => hb (hs b z)) fun z => he (hx b z), fun _ _ q n _ he => u.any q n fun z => he (hx _ z), fun b ob q n he => u.free b ob q n fun z => he (hx b z), fun b ob q he => u.there b ob q fun z => he (hx b z), u.tups, u.frzs, u.tbls⟩
end

def trk (h : Heap) (H : Hp) : List Addr := (List.range h.objs.size).filter fun a => (H a).isSome
def hidT (h : Heap) (H : Hp) : Heap := PySem.W.hideAll h (trk h H)
theorem hidT_size (h : Heap) (H : Hp) : (hidT h H).objs.size = h.objs.size := PySem.W.hideAll_size _ _
theorem hidT_get {h : Heap} {H : Hp} {b : Addr} {o : Obj} (e : h.get? b = some o) (n : H b = none) : (hidT h H).get? b = some o :=
  PySem.W.hideAll_get _ e fun hm => by
    have q : (H b).isSome = true := (List.mem_filter.mp hm).2
    rw [n] at q; simp at q
theorem of_hidT {h : Heap} {H : Hp} {b : Addr} {o : Obj} (e : (hidT h H).get? b = some o) : h.get? b = some o ∧ H b = none := by
  have e' : h.get? b = some o := PySem.W.of_hideAll (trk h H) e
  refine ⟨e', ?_⟩
  cases q : H b with
  | none => rfl
  | some x =>
    have hm : b ∈ trk h H := List.mem_filter.mpr ⟨List.mem_range.mpr (Heap.lt_size e'), by simp [q]⟩
    have z : (hidT h H).get? b = none := PySem.W.hideAll_none (trk h H) hm
    rw [z] at e; cases e

def allNews (g h : Heap) (L : Addr) : List (Addr × Obj) := (List.range h.objs.size).filterMap fun a => if a = L ∨ (g.get? a).isSome = true then none else (h.get? a).map fun o => (a, o)
def rest (g h : Heap) (L d : Addr) : List (Addr × Obj) := (allNews g h L).filter fun p => decide (p.1 ≠ d)
end L2

namespace L2
open PySem PySem.Spec PyProof.Rows

structure Mod (K : PySem.W.Frag) (mg : Str → Option Value) (base : Heap) : Prop where
  kin : K.In base
  glob : base.Ns mainGlobals mg
  blt : ∃ mb, base.Ns builtinsNs mb ∧ ∀ x : Str, x ≠ "__name__" → mb x = bootBuiltins x
  nolimit : base.NoLimit

structure Cx where
  prog : Program
  w : World
  K : PySem.W.Frag
  mg : Str → Option Value
  base : Heap
  A : Around
  N : List Str
  s₀ : Shared
  H₀ : Hp
  env : Env
  outer : List Env
  stack : List Env
  ex : List Addr
  fn : Str → Bool
  calm : Bool
  pn : List (Addr × Obj)
  xe : Value → Shared → Prop
def frs (l : List Env) : List Addr := l.filterMap (·.frame)
abbrev Cx.fs (X : Cx) : List Addr := frs X.outer

def Vis (sc : Scope) (x : Str) : Prop := sc.names.lookup x = some .local ∨ sc.names.lookup x = some .cell ∨ sc.names.lookup x = some .free
def Loc (sc : Scope) (x : Str) : Prop := sc.names.lookup x = some .local ∨ sc.names.lookup x = some .cell
def Look (env : Env) (h : Heap) (m : Str → Option Value) (x : Str) (u : Value) : Prop :=
  (env.kindOf x = some .local ∧ m x = some u) ∨ ((env.kindOf x = some .cell ∨ env.kindOf x = some .free) ∧ ∃ c, env.cells.lookup x = some c ∧ h.IsCell c (some u))

structure Cx.Ok (X : Cx) : Prop where
  mod : Mod X.K X.mg X.base
  kind : X.env.scope.kind = .function
  glob : X.env.globals = mainGlobals
  blt : X.env.builtins = builtinsNs
  above : X.s₀.heap.objs.size ≤ X.env.locals
  inj : ∀ x y c, X.env.cells.lookup x = some c → X.env.cells.lookup y = some c → x = y
  has : ∀ x, (X.env.kindOf x = some .cell ∨ X.env.kindOf x = some .free) → ∃ c, X.env.cells.lookup x = some c
  cab : ∀ x c, X.fn x = true → X.env.cells.lookup x = some c → X.s₀.heap.objs.size ≤ c
  hd : X.calm = true → X.A.handled = none
  frames : X.A.frames = some X.stack
  stk : X.stack = X.outer ∨ (X.stack = X.env :: X.outer ∧ X.env.frame = some X.env.locals)
  exf : ∀ b ∈ X.ex, b ≠ X.env.locals ∧ ∀ x c, X.env.cells.lookup x = some c → c ≠ b
  bs : ∀ b o, X.base.get? b = some o → X.s₀.heap.get? b = some o ∧ X.H₀ b = none
  bsz : X.base.objs.size ≤ X.s₀.heap.objs.size
  noex : ∀ b o, X.base.get? b = some o → b ∉ X.ex
  exfs : ∀ b ∈ X.ex, b ∉ X.fs
  funs : X.s₀.heap.FunFrames X.base X.outer
  frf : ∀ b ∈ X.fs, X.H₀ b = none

structure Inv (X : Cx) (pins : List (Addr × Obj)) (σ : List (Option V)) (H : Hp) (s : Shared) : Prop where
  ok : X.Ok
  os : s.os = X.s₀.os
  bare : AllBare s.gens
  base : Un X.fs X.ex X.H₀ H X.s₀.heap s.heap
  loc : ∃ m, s.heap.Ns X.env.locals m ∧ ∀ (i : Nat) (x : Str) (v : V), X.N[i]? = some x → σ[i]? = some (some v) → Vis X.env.scope x → ∃ u, RelV v u ∧ Look X.env s.heap m x u
  cell : ∀ x c, X.env.cells.lookup x = some c → ∃ v, s.heap.IsCell c v
  free : H X.env.locals = none
  freeC : ∀ x c, X.env.cells.lookup x = some c → H c = none
  pin : ∀ p ∈ X.pn ++ pins, s.heap.get? p.1 = some p.2 ∧ H p.1 = none ∧ p.1 ≠ X.env.locals ∧ p.1 ∉ X.fs ∧ ∀ v, p.2.data ≠ .cell v
  hok : HOk X.prog X.w H s.heap
  len : σ.length = X.N.length

section
variable {X : Cx} {pins : List (Addr × Obj)} {σ : List (Option V)} {H H' : Hp} {s : Shared} {h' : Heap}

theorem Cx.Ok.nofr (ok : X.Ok) {b : Addr} {o : Obj} (e : X.base.get? b = some o) : b ∉ X.fs := fun hb => by
  have := (ok.funs.mem hb).1
  rw [e] at this; cases this
theorem Inv.bs (I : Inv X pins σ H s) : ∀ b o, X.base.get? b = some o → s.heap.get? b = some o ∧ H b = none := fun b o e =>
  ⟨I.base.keep b o (I.ok.bs b o e).1 (I.ok.bs b o e).2 (I.ok.nofr e) (I.ok.noex b o e), I.base.free b o (I.ok.bs b o e).1 (I.ok.bs b o e).2 (I.ok.noex b o e)⟩
theorem Inv.bk (I : Inv X pins σ H s) : ∀ b o, X.base.get? b = some o → s.heap.get? b = some o := fun b o e => (I.bs b o e).1
theorem Inv.mod (I : Inv X pins σ H s) : Mod X.K X.mg X.base := I.ok.mod
theorem Inv.kIn (I : Inv X pins σ H s) : X.K.In s.heap := I.ok.mod.kin.keeps I.bk
theorem Inv.nolimit (I : Inv X pins σ H s) : s.heap.NoLimit := I.ok.mod.nolimit.keeps I.bk
theorem Inv.fr (I : Inv X pins σ H s) : ∃ m, Fr X.base X.env.locals s.heap m :=
  let ⟨m, hn, _⟩ := I.loc
  ⟨m, hn, I.bk, Nat.le_trans I.ok.bsz I.ok.above⟩
theorem Inv.lt (I : Inv X pins σ H s) : X.env.locals < s.heap.objs.size := let ⟨_, hn, _⟩ := I.loc; hn.lt
theorem Inv.sz (I : Inv X pins σ H s) : X.s₀.heap.objs.size ≤ s.heap.objs.size := Nat.le_trans I.ok.above (Nat.le_of_lt I.lt)
theorem Inv.nofs (I : Inv X pins σ H s) {a : Addr} (h : s.heap.objs.size ≤ a) : a ∉ X.fs := fun hb => by
  obtain ⟨_, o, ho, _⟩ := I.ok.funs.mem hb
  exact absurd (Nat.lt_of_lt_of_le (Heap.lt_size ho) (Nat.le_trans I.sz h)) (Nat.lt_irrefl _)
theorem Inv.cne (I : Inv X pins σ H s) : ∀ x c, X.env.cells.lookup x = some c → c ≠ X.env.locals := fun x c e z => by
  obtain ⟨v, o, ho, hd⟩ := I.cell x c e
  obtain ⟨m, ⟨o', es, ep, ho', hd', _⟩, _⟩ := I.loc
  rw [z, ho'] at ho; cases ho; rw [hd'] at hd; cases hd
theorem Inv.funs (I : Inv X pins σ H s) : s.heap.FunFrames X.base X.outer := by
  have all : ∀ (l : List Env), (∀ b ∈ frs l, b ∈ X.fs) → X.s₀.heap.FunFrames X.base l → s.heap.FunFrames X.base l := by
    intro l
    induction l with
    | nil => intro _ _; trivial
    | cons env r ih =>
      intro hs hl
      obtain ⟨hk, ⟨L, o, hf, hn, ho, hd⟩, hr⟩ := hl
      have hL : L ∈ X.fs := hs L (by unfold frs; rw [List.filterMap_cons, hf]; exact List.mem_cons_self)
      obtain ⟨sl, e⟩ := I.base.slot L o ho (I.ok.frf L hL) hL fun z => I.ok.exfs L z hL
      exact ⟨hk, ⟨L, _, hf, hn, e, hd⟩, ih (fun b hb => hs b (by unfold frs; rw [List.filterMap_cons, hf]; exact List.mem_cons_of_mem _ hb)) hr⟩
  exact all X.outer (fun _ hb => hb) I.ok.funs

theorem Inv.stack (I : Inv X pins σ H s) : s.heap.FunFrames X.base X.stack := by
  rcases I.ok.stk with e | ⟨e, hf⟩
  · rw [e]; exact I.funs
  · rw [e]
    obtain ⟨m, hn, _⟩ := I.loc
    refine .cons (by rw [I.ok.kind]; decide) hf hn ?_ I.funs
    exact Heap.get?_none_of_le (Nat.le_trans I.ok.bsz I.ok.above)
theorem Inv.stkSub (I : Inv X pins σ H s) : ∀ b ∈ frs X.stack, b ∈ X.env.locals :: X.fs := fun b hb => by
  rcases I.ok.stk with e | ⟨e, hf⟩
  · rw [e] at hb; exact List.mem_cons_of_mem _ hb
  · rw [e] at hb
    unfold frs at hb
    rw [List.filterMap_cons, hf] at hb
    exact hb
theorem Inv.stkFree (I : Inv X pins σ H s) : ∀ b ∈ frs X.stack, H b = none := fun b hb => by
  rcases List.mem_cons.mp (I.stkSub b hb) with e | hb
  · rw [e]; exact I.free
  · obtain ⟨_, o, ho, _⟩ := I.ok.funs.mem hb
    exact I.base.free b o ho (I.ok.frf b hb) fun z => I.ok.exfs b z hb

theorem Inv.step {g' : Array GenState} {t' : Nat} {d' : Drawn} {ch : List Addr} (I : Inv X pins σ H s)
    (hch : ∀ b ∈ ch, (b ∈ X.ex ∨ X.s₀.heap.objs.size ≤ b) ∧ b ≠ X.env.locals ∧ (∀ x c, X.env.cells.lookup x = some c → c ≠ b) ∧ ∀ p ∈ X.pn ++ pins, p.1 ≠ b)
    (keep : ∀ b o, b ≠ X.env.locals → b ∉ X.fs → b ∉ ch → s.heap.get? b = some o → H b = none → h'.get? b = some o)
    (slot : ∀ b o, b ≠ X.env.locals → b ∈ X.fs → b ∉ ch → s.heap.get? b = some o → H b = none → ∃ sl, h'.get? b = some { o with slots := sl }) (free : ∀ b o, b ∉ ch → s.heap.get? b = some o → H b = none → H' b = none)
    (there : ∀ b o, b ∉ ch → s.heap.get? b = some o → ∃ o', h'.get? b = some o')
    (tups : ∀ b xs, H b = some (.tup xs) → H' b = some (.tup xs)) (frzs : ∀ b o u, H b = some (.frz o u) → H' b = some (.frz o u)) (tbls : ∀ b ps, H b = some (.tbl ps) → ∃ more, H' b = some (.tbl (ps ++ more)))
    (ns : ∀ m, s.heap.Ns X.env.locals m → h'.Ns X.env.locals m) (hok : HOk X.prog X.w H' h') (hg : AllBare g') :
    Inv X pins σ H' { s with heap := h', gens := g', drawn := d', toks := t' } := by
  have neL : ∀ b o, X.s₀.heap.get? b = some o → b ≠ X.env.locals := fun b o e => Nat.ne_of_lt (Nat.lt_of_lt_of_le (Heap.lt_size e) I.ok.above)
  have neC : ∀ b o, X.s₀.heap.get? b = some o → b ∉ X.ex → b ∉ ch := fun b o e hx hb => by
    rcases (hch b hb).1 with z | z
    · exact hx z
    · exact absurd (Nat.lt_of_lt_of_le (Heap.lt_size e) z) (Nat.lt_irrefl _)
  have cellK : ∀ x c, X.env.cells.lookup x = some c → ∀ v, s.heap.IsCell c v → h'.IsCell c v := fun x c e v ⟨o, ho, hd⟩ => by
    have nch : c ∉ ch := fun z => (hch c z).2.2.1 x c e rfl
    by_cases hc : c ∈ X.fs
    · obtain ⟨sl, q⟩ := slot c o (I.cne x c e) hc nch ho (I.freeC x c e)
      exact ⟨_, q, hd⟩
    · exact ⟨o, keep c o (I.cne x c e) hc nch ho (I.freeC x c e), hd⟩
  refine ⟨I.ok, I.os, hg, ⟨fun b o e n hb hx => ?_, fun b o e n hb hx => ?_, fun b o e n hx => ?_, fun b o e hx => ?_, fun b xs e => tups b xs (I.base.tups b xs e), fun b o xs e => frzs b o xs (I.base.frzs b o xs e), fun b ps e => ?_⟩, ?_, fun x c e => ?_, ?_, fun x c e => ?_, fun p hp => ?_, hok, I.len⟩
  · exact keep b o (neL b o e) hb (neC b o e hx) (I.base.keep b o e n hb hx) (I.base.free b o e n hx)
  · obtain ⟨sl, e1⟩ := I.base.slot b o e n hb hx
    obtain ⟨sl', e2⟩ := slot b _ (neL b o e) hb (neC b o e hx) e1 (I.base.free b o e n hx)
    exact ⟨sl', e2⟩
  · obtain ⟨o', e1⟩ := I.base.there b o e hx
    exact free b o' (neC b o e hx) e1 (I.base.free b o e n hx)
  · obtain ⟨o', e1⟩ := I.base.there b o e hx
    exact there b o' (neC b o e hx) e1
  · obtain ⟨m1, e1⟩ := I.base.tbls b ps e
    obtain ⟨m2, e2⟩ := tbls b _ e1
    exact ⟨m1 ++ m2, by rw [e2, Array.append_assoc]⟩
  · obtain ⟨m, hn, hl⟩ := I.loc
    refine ⟨m, ns m hn, fun i x v e1 e2 e3 => ?_⟩
    obtain ⟨u, r, l⟩ := hl i x v e1 e2 e3
    refine ⟨u, r, ?_⟩
    rcases l with l | ⟨k, c, e, z⟩
    · exact .inl l
    · exact .inr ⟨k, c, e, cellK x c e _ z⟩
  · obtain ⟨v, z⟩ := I.cell x c e
    exact ⟨v, cellK x c e v z⟩
  · obtain ⟨m, ⟨o, _, _, ho, _⟩, _⟩ := I.loc
    exact free _ o (fun z => (hch _ z).2.1 rfl) ho I.free
  · obtain ⟨v, o, ho, hd⟩ := I.cell x c e
    exact free c o (fun z => (hch c z).2.2.1 x c e rfl) ho (I.freeC x c e)
  · obtain ⟨e, n, ne, nf, d⟩ := I.pin p hp
    have nch : p.1 ∉ ch := fun z => (hch p.1 z).2.2.2 p hp rfl
    exact ⟨keep p.1 p.2 ne nf nch e n, free p.1 p.2 nch e n, ne, nf, d⟩
theorem Inv.un {t' : Nat} (I : Inv X pins σ H s) (u : Un X.fs [] H H' s.heap h') (hok : HOk X.prog X.w H' h') : Inv X pins σ H' { s with heap := h', toks := t' } := by
  obtain ⟨m, ⟨o, es, ep, ho, r⟩, _⟩ := id I.loc
  obtain ⟨sl, hL⟩ := u.any ho I.free (by simp)
  exact I.step (g' := s.gens) (d' := s.drawn) (ch := []) (fun _ z => nomatch z) (fun b o _ hb _ e n => u.keep b o e n hb (by simp)) (fun b o _ hb _ e n => u.slot b o e n hb (by simp)) (fun b o _ e n => u.free b o e n (by simp)) (fun b o _ e => u.there b o e (by simp)) u.tups u.frzs u.tbls (fun m' hm => by
    obtain ⟨o', es', ep', ho', r'⟩ := hm
    rw [ho] at ho'; cases ho'
    exact ⟨_, es', ep', hL, r'⟩) hok I.bare
theorem Inv.call {g' : Array GenState} {t' : Nat} {d' : Drawn} {ch : List Addr} (I : Inv X pins σ H s) (u : Un (frs X.stack) ch H H' s.heap h') (hok : HOk X.prog X.w H' h') (hg : AllBare g')
    (hch : ∀ b ∈ ch, (b ∈ X.ex ∨ X.s₀.heap.objs.size ≤ b) ∧ b ≠ X.env.locals ∧ (∀ x c, X.env.cells.lookup x = some c → c ≠ b) ∧ ∀ p ∈ X.pn ++ pins, p.1 ≠ b) :
    Inv X pins σ H' { s with heap := h', gens := g', drawn := d', toks := t' } := by
  obtain ⟨m, ⟨o, es, ep, ho, r⟩, _⟩ := id I.loc
  obtain ⟨sl, hL⟩ := u.any ho I.free fun z => (hch _ z).2.1 rfl
  exact I.step (ch := ch) hch (fun b o hL hb hc e n => u.keep b o e n (fun z => (List.mem_cons.mp (I.stkSub b z)).elim hL hb) hc) (fun b o _ _ hc e n => u.any e n hc) (fun b o hc e n => u.free b o e n hc) (fun b o hc e => u.there b o e hc) u.tups u.frzs u.tbls (fun m' hm => by
    obtain ⟨o', es', ep', ho', r'⟩ := hm
    rw [ho] at ho'; cases ho'
    exact ⟨_, es', ep', hL, r'⟩) hok hg
theorem Inv.turned {t' : Nat} {it : Addr} (I : Inv X pins σ H s) (k : ∀ b o, b ≠ it → s.heap.get? b = some o → h'.get? b = some o) (hn : H it = none) (hL : it ≠ X.env.locals)
    (h1 : it ∈ X.ex ∨ X.s₀.heap.objs.size ≤ it) (h2 : ∀ x c, X.env.cells.lookup x = some c → c ≠ it) (h3 : ∀ p ∈ X.pn ++ pins, p.1 ≠ it) : Inv X pins σ H { s with heap := h', toks := t' } := by
  have nit : ∀ b u, H b = some u → b ≠ it := fun b u e z => by rw [z, hn] at e; cases e
  refine I.step (g' := s.gens) (d' := s.drawn) (ch := [it]) (fun b hb => ?_) (fun b o _ _ hc e _ => k b o (fun z => hc (by simp [z])) e) (fun b o _ _ hc e _ => ⟨o.slots, k b o (fun z => hc (by simp [z])) e⟩) (fun _ _ _ _ n => n)
    (fun b o hc e => ⟨o, k b o (fun z => hc (by simp [z])) e⟩) (fun _ _ e => e) (fun _ _ _ e => e) (fun b ps e => ⟨#[], by rw [e]; simp⟩) (fun m hm => ?_) (fun b u e => ?_) I.bare
  · have e : b = it := by simpa using hb
    subst e
    exact ⟨h1, hL, h2, h3⟩
  · obtain ⟨o, es, ep, ho, r⟩ := hm
    exact ⟨o, es, ep, k _ o (Ne.symm hL) ho, r⟩
  · refine (I.hok b u e).stay (fun c v hc q => k c v ?_ q) (fun _ q => q) fun _ _ q => q
    rcases hc with z | z
    · rw [z]; exact nit b u e
    · exact nit c _ z
theorem Inv.tok (I : Inv X pins σ H s) (t : Nat) : Inv X pins σ H { s with toks := t } := I.un (h' := s.heap) (t' := t) Un.refl I.hok
theorem Inv.kept {t' : Nat} (I : Inv X pins σ H s) (k : ∀ b u, s.heap.get? b = some u → h'.get? b = some u) : Inv X pins σ H { s with heap := h', toks := t' } := I.un (Un.kept k) (I.hok.kept k)
theorem Inv.laid {a : Addr} {o : HO} {t' : Nat} (I : Inv X pins σ H s) (k : ∀ b u, s.heap.get? b = some u → h'.get? b = some u) (hp : s.heap.objs.size ≤ a) (new : ObjOk X.prog X.w (upd H a o) h' a o) :
    Inv X pins σ (upd H a o) { s with heap := h', toks := t' } := I.un (Un.laid k hp (I.hok.fresh hp)) (I.hok.laid k hp new)
theorem Inv.write {x e : Addr} {o : HO} {t' : Nat} (I : Inv X pins σ H s) (mu : Mut (H x)) (he : e = x ∨ H e = some (.own x)) (k : ∀ b u, b ≠ e → s.heap.get? b = some u → h'.get? b = some u) (heo : ∃ u, h'.get? e = some u)
    (new : ObjOk X.prog X.w (upd H x o) h' x o) : Inv X pins σ (upd H x o) { s with heap := h', toks := t' } := I.un (Un.write mu he k heo) (I.hok.write mu he k heo new)
theorem Inv.pins_of {pins' : List (Addr × Obj)} (I : Inv X pins σ H s) (h : ∀ p ∈ pins', s.heap.get? p.1 = some p.2 ∧ H p.1 = none ∧ p.1 ≠ X.env.locals ∧ p.1 ∉ X.fs ∧ ∀ v, p.2.data ≠ .cell v) : Inv X pins' σ H s :=
  ⟨I.ok, I.os, I.bare, I.base, I.loc, I.cell, I.free, I.freeC, fun p hp => (List.mem_append.mp hp).elim (fun z => I.pin p (List.mem_append_left _ z)) (h p), I.hok, I.len⟩

theorem nodup_ix {N : List Str} (hN : N.Nodup) {i j : Nat} {x : Str} (a : N[i]? = some x) (b : N[j]? = some x) : i = j := by
  obtain ⟨h1, e1⟩ := List.getElem?_eq_some_iff.mp a
  obtain ⟨h2, e2⟩ := List.getElem?_eq_some_iff.mp b
  exact (List.getElem_inj hN).mp (e1.trans e2.symm)

theorem store_ok2 {M : Model} {A : Around} {E : Value → Shared → Prop} {i : Nat} {x : Str} {v : V} {u : Value} {Q : Unit → Shared → Prop} (I : Inv X pins σ H s) (hN : X.N.Nodup) (hi : X.N[i]? = some x) (hx : Loc X.env.scope x) (r : RelV v u)
    (h : ∀ s', Inv X pins (σ.set i (some v)) H s' → (∃ a, Heap.SameBut a s.heap s'.heap ∧ (a = X.env.locals ∨ X.env.cells.lookup x = some a)) → Q () s') (hf : X.fn x = true ∨ X.env.scope.names.lookup x = some .local := by first | exact .inl rfl | exact .inr rfl | assumption) : wpAny M A (storeName X.env x u) Q E s := by
  obtain ⟨m, hn, hl⟩ := id I.loc
  have hcls : (X.env.scope.kind == .class || (X.env.scope.kind == .module && X.env.locals != X.env.globals)) = false := by rw [I.ok.kind]; rfl
  have hiσ : i < σ.length := by rw [I.len]; exact (List.getElem?_eq_some_iff.mp hi).1
  have cne := I.cne
  have tracked : ∀ {a : Addr} {h' : Heap}, (∃ o, s.heap.get? a = some o ∧ H a = none) → Heap.SameBut a s.heap h' → HOk X.prog X.w H h' := fun {a h'} ha hs b ob e => by
    obtain ⟨_, _, hfree⟩ := ha
    refine (I.hok b ob e).stay (fun c w' hc q => (hs.2 c ?_).trans q) (fun _ q => q) fun _ _ q => q
    rintro rfl
    rcases hc with rfl | hc
    · rw [hfree] at e; cases e
    · rw [hfree] at hc; cases hc
  rcases hx with hk | hk
  · refine wpAny_storeName_local hk hn (fun h' hn' hs => ?_) hcls
    obtain ⟨oL, _, _, hoL, _⟩ := id hn
    refine h _ ⟨I.ok, I.os, I.bare, ⟨fun b o e n hb hx => ?_, fun b o e n hb hx => ?_, I.base.free, fun b o e hx => ?_, I.base.tups, I.base.frzs, I.base.tbls⟩, ⟨_, hn', fun j y v' e1 e2 e3 => ?_⟩, fun y c e => ?_, I.free, I.freeC, fun p hp => ?_, tracked ⟨oL, hoL, I.free⟩ hs, by simpa using I.len⟩ ⟨_, hs, .inl rfl⟩
    · exact (hs.2 b (Nat.ne_of_lt (Nat.lt_of_lt_of_le (Heap.lt_size e) I.ok.above))).trans (I.base.keep b o e n hb hx)
    · obtain ⟨sl, e1⟩ := I.base.slot b o e n hb hx
      exact ⟨sl, (hs.2 b (Nat.ne_of_lt (Nat.lt_of_lt_of_le (Heap.lt_size e) I.ok.above))).trans e1⟩
    · obtain ⟨o', e1⟩ := I.base.there b o e hx
      exact ⟨o', (hs.2 b (Nat.ne_of_lt (Nat.lt_of_lt_of_le (Heap.lt_size e) I.ok.above))).trans e1⟩
    · by_cases hj : j = i
      · subst hj
        rw [hi] at e1; cases e1
        rw [List.getElem?_set_self hiσ] at e2
        cases e2
        exact ⟨u, r, .inl ⟨hk, by simp⟩⟩
      · rw [List.getElem?_set_ne (Ne.symm hj)] at e2
        obtain ⟨u', r', q⟩ := hl j y v' e1 e2 e3
        refine ⟨u', r', ?_⟩
        rcases q with ⟨k, e⟩ | ⟨k, c, e, z⟩
        · refine .inl ⟨k, ?_⟩
          have : y ≠ x := fun e => hj (nodup_ix hN e1 (e ▸ hi))
          simp [this, e]
        · exact .inr ⟨k, c, e, z.sameBut hs (cne y c e)⟩
    · obtain ⟨w', z⟩ := I.cell y c e
      exact ⟨w', z.sameBut hs (cne y c e)⟩
    · obtain ⟨e, n, ne, nf, d⟩ := I.pin p hp
      exact ⟨(hs.2 p.1 ne).trans e, n, ne, nf, d⟩
  · have hfn : X.fn x = true := by
      rcases hf with z | z
      · exact z
      · rw [z] at hk; cases hk
    obtain ⟨c, hc⟩ := I.ok.has x (.inl hk)
    obtain ⟨w', z⟩ := I.cell x c hc
    refine wpAny_storeName_cell I.ok.kind hk hc z (fun h' hc' hs => ?_)
    obtain ⟨oc, hoc, hocd⟩ := id z
    refine h { s with heap := h' } ⟨I.ok, I.os, I.bare, ⟨fun b o e n hb hx => ?_, fun b o e n hb hx => ?_, I.base.free, fun b o e hx => ?_, I.base.tups, I.base.frzs, I.base.tbls⟩, ⟨m, hn.sameBut hs (Ne.symm (cne x c hc)), fun j y v' e1 e2 e3 => ?_⟩, fun y c' e => ?_, I.free, I.freeC, fun p hp => ?_, tracked ⟨oc, hoc, I.freeC x c hc⟩ hs, by simpa using I.len⟩ ⟨c, hs, .inr hc⟩
    · exact (hs.2 b (Nat.ne_of_lt (Nat.lt_of_lt_of_le (Heap.lt_size e) (I.ok.cab x c hfn hc)))).trans (I.base.keep b o e n hb hx)
    · obtain ⟨sl, e1⟩ := I.base.slot b o e n hb hx
      exact ⟨sl, (hs.2 b (Nat.ne_of_lt (Nat.lt_of_lt_of_le (Heap.lt_size e) (I.ok.cab x c hfn hc)))).trans e1⟩
    · obtain ⟨o', e1⟩ := I.base.there b o e hx
      exact ⟨o', (hs.2 b (Nat.ne_of_lt (Nat.lt_of_lt_of_le (Heap.lt_size e) (I.ok.cab x c hfn hc)))).trans e1⟩
    · by_cases hj : j = i
      · subst hj
        rw [hi] at e1; cases e1
        rw [List.getElem?_set_self hiσ] at e2
        cases e2
        exact ⟨u, r, .inr ⟨.inl hk, c, hc, hc'⟩⟩
      · rw [List.getElem?_set_ne (Ne.symm hj)] at e2
        obtain ⟨u', r', q⟩ := hl j y v' e1 e2 e3
        refine ⟨u', r', ?_⟩
        rcases q with q | ⟨k, c', e, z'⟩
        · exact .inl q
        · refine .inr ⟨k, c', e, z'.sameBut hs ?_⟩
          rintro rfl
          exact hj (nodup_ix hN e1 (I.ok.inj _ _ _ e hc ▸ hi))
    · by_cases hcc : c' = c
      · subst hcc; exact ⟨_, hc'⟩
      · obtain ⟨w2, z2⟩ := I.cell y c' e
        exact ⟨w2, z2.sameBut hs hcc⟩
    · obtain ⟨e, n, ne, nf, d⟩ := I.pin p hp
      refine ⟨(hs.2 p.1 ?_).trans e, n, ne, nf, d⟩
      intro q
      rw [q, hoc] at e
      have q' : oc = p.2 := Option.some.inj e
      exact d w' (by rw [← q']; exact hocd)
theorem store_ok {M : Model} {A : Around} {E : Value → Shared → Prop} {i : Nat} {x : Str} {v : V} {u : Value} {Q : Unit → Shared → Prop} (I : Inv X pins σ H s) (hN : X.N.Nodup) (hi : X.N[i]? = some x) (hx : Loc X.env.scope x) (r : RelV v u)
    (h : ∀ s', Inv X pins (σ.set i (some v)) H s' → Q () s') (hf : X.fn x = true ∨ X.env.scope.names.lookup x = some .local := by first | exact .inl rfl | exact .inr rfl | assumption) : wpAny M A (storeName X.env x u) Q E s :=
  store_ok2 I hN hi hx r (fun s' I' _ => h s' I') hf
theorem Inv.call' {s' : Shared} {ch : List Addr} (I : Inv X pins σ H s) (ho : s'.os = s.os) (u : Un (frs X.stack) ch H H' s.heap s'.heap) (hok : HOk X.prog X.w H' s'.heap) (hg : AllBare s'.gens)
    (hch : ∀ b ∈ ch, (b ∈ X.ex ∨ X.s₀.heap.objs.size ≤ b) ∧ b ≠ X.env.locals ∧ (∀ x c, X.env.cells.lookup x = some c → c ≠ b) ∧ ∀ p ∈ X.pn ++ pins, p.1 ≠ b) : Inv X pins σ H' s' := by
  obtain ⟨h', g', d', t', o'⟩ := s'
  have e : o' = s.os := ho
  subst e
  exact I.call (g' := g') (t' := t') (d' := d') u hok hg hch
end

abbrev XK := Value → Option Addr → Hp → Prop
abbrev St := List (Option V)
abbrev VK := V → Hp → Prop
abbrev TE := St → Hp → VK → Prop
abbrev TT := St → Hp → (Bool → Hp → Prop) → Prop
abbrev TA := St → Hp → (List V → Hp → Prop) → Prop
structure Ends where
  nx : St → Hp → Prop
  rt : VK
  bk : St → Hp → Prop := fun _ _ => False
  ct : St → Hp → Prop := fun _ _ => False
abbrev TS := Ends → St → Hp → Prop

def EP (X : Cx) (pins : List (Addr × Obj)) (σ : St) (Q : VK) (u : Value) (s' : Shared) : Prop := ∃ v H', Inv X pins σ H' s' ∧ RelV v u ∧ Q v H'
def TP (X : Cx) (pins : List (Addr × Obj)) (σ : St) (Q : Bool → Hp → Prop) (b : Bool) (s' : Shared) : Prop := ∃ H', Inv X pins σ H' s' ∧ Q b H'
def AP (X : Cx) (pins : List (Addr × Obj)) (σ : St) (Q : List V → Hp → Prop) (us : List Value) (s' : Shared) : Prop := ∃ vs H', Inv X pins σ H' s' ∧ Vals vs us ∧ Q vs H'
def SP (X : Cx) (pins : List (Addr × Obj)) (D : Ends) (f : Flow) (s' : Shared) : Prop :=
  match f with
  | .next => ∃ σ' H', Inv X pins σ' H' s' ∧ D.nx σ' H'
  | .brk => ∃ σ' H', Inv X pins σ' H' s' ∧ D.bk σ' H'
  | .cont => ∃ σ' H', Inv X pins σ' H' s' ∧ D.ct σ' H'
  | .ret u => ∃ v σ' H', Inv X pins σ' H' s' ∧ RelV v u ∧ D.rt v H'

def PE (X : Cx) (e : Expr) (t : TE) : Prop :=
  ∀ (pins : List (Addr × Obj)) (s : Shared) (σ : St) (H : Hp) (Q : VK), Inv X pins σ H s → t σ H Q → wpAny (model X.prog X.w) X.A (eval e X.env) (EP X pins σ Q) X.xe s
def PT (X : Cx) (e : Expr) (t : TT) : Prop :=
  ∀ (pins : List (Addr × Obj)) (s : Shared) (σ : St) (H : Hp) (Q : Bool → Hp → Prop), Inv X pins σ H s → t σ H Q → wpAny (model X.prog X.w) X.A (isTrue e X.env (eval e X.env)) (TP X pins σ Q) X.xe s
def PW (X : Cx) (e : Expr) (t : TT) : Prop :=
  ∀ (whole : Sem Value) (pins : List (Addr × Obj)) (s : Shared) (σ : St) (H : Hp) (Q : Bool → Hp → Prop), Inv X pins σ H s → t σ H Q → wpAny (model X.prog X.w) X.A (isTrue e X.env whole) (TP X pins σ Q) X.xe s
theorem PW.pt {X : Cx} {e : Expr} {t : TT} (h : PW X e t) : PT X e t := h _
def PA (X : Cx) (es : List Expr) (t : TA) : Prop :=
  ∀ (pos : Pos) (pins : List (Addr × Obj)) (s : Shared) (σ : St) (H : Hp) (Q : List V → Hp → Prop), Inv X pins σ H s → t σ H Q → wpAny (model X.prog X.w) X.A (spliced (backTo pos (starEach es X.env))) (AP X pins σ Q) X.xe s
def PS (X : Cx) (st : Stmt) (t : TS) : Prop :=
  ∀ (pins : List (Addr × Obj)) (s : Shared) (σ : St) (H : Hp) (D : Ends), Inv X pins σ H s → t D σ H → wpAny (model X.prog X.w) X.A (exec st X.env) (SP X pins D) X.xe s
def PSs (X : Cx) (st : List Stmt) (t : TS) : Prop :=
  ∀ (pins : List (Addr × Obj)) (s : Shared) (σ : St) (H : Hp) (D : Ends), Inv X pins σ H s → t D σ H → wpAny (model X.prog X.w) X.A (execs st X.env) (SP X pins D) X.xe s
theorem thn {α : Type} {t : Sem α} {Q Q' : α → Shared → Prop} {M : Model} {A : Around} {E : Value → Shared → Prop} {s : Shared} (h : wpAny M A t Q E s) (hQ : ∀ a s, Q a s → Q' a s) : wpAny M A t Q' E s := wpAny_mono h hQ fun _ _ x => x
end L2

namespace L2
open PySem PySem.Spec PyProof.Rows
section
variable {X : Cx}

def tVar (i : Nat) : TE := fun σ H Q => ∃ v, σ[i]? = some (some v) ∧ Q v H
def tC (v : V) : TE := fun _ H Q => Q v H
theorem pe_var {i : Nat} {x : Str} {pos : Pos} (hN : X.N[i]? = some x) (hv : Vis X.env.scope x) (hd : (x == ("__debug__" : Str)) = false := by decide) (hcd : (x == ("__classdict__" : Str)) = false := by decide) : PE X (.Name x pos) (tVar i) := by
  intro pins s σ H Q I h
  obtain ⟨v, e, h⟩ := h
  obtain ⟨m, hn, hl⟩ := I.loc
  obtain ⟨u, r, l⟩ := hl i x v hN e hv
  have fin : EP X pins σ Q u s := ⟨v, H, I, r, h⟩
  rcases l with ⟨hk, hm⟩ | ⟨hk, c, hc, hcell⟩
  · exact wpAny_Name (wpAny_loadName_local I.ok.kind hk hn hm fin) hd
  · rcases hk with hk | hk
    · exact wpAny_Name (wpAny_loadName_cell I.ok.kind hk hc hcell fin) hd
    · exact wpAny_Name (wpAny_loadName_free I.ok.kind hk hc hcell fin hcd) hd
theorem pe_int {i j pos} : PE X (.Constant (.int i) j pos) (tC (.int i)) := fun _ _ _ H _ I h => wpAny_Constant_int ⟨.int i, H, I.tok _, ⟨_, rfl⟩, h⟩
theorem pe_bl {b j pos} : PE X (.Constant (.bool b) j pos) (tC (.bl b)) := fun _ _ _ H _ I h => Constant_bool ⟨.bl b, H, I, rfl, h⟩
theorem pe_non {j pos} : PE X (.Constant .none j pos) (tC .non) := fun _ _ _ H _ I h => Constant_none ⟨.non, H, I, rfl, h⟩
theorem pe_str {x j pos} : PE X (.Constant (.str x) j pos) (tC (.str x)) := fun _ _ _ H _ I h => Calls.Constant_str ⟨.str x, H, I.tok _, ⟨_, rfl⟩, h⟩

def Gl (X : Cx) (x : Str) : Prop := X.env.kindOf x = some .globalImplicit
theorem ld_glob {E : Value → Shared → Prop} {pins : List (Addr × Obj)} {s : Shared} {σ : St} {H : Hp} {x : Str} {u : Value} {pos : Pos} {Q : Value → Shared → Prop} (I : Inv X pins σ H s) (hg : Gl X x) (hm : X.mg x = some u) (h : Q u s)
    (hd : (x == ("__debug__" : Str)) = false := by decide) : wpAny (model X.prog X.w) X.A (eval (.Name x pos) X.env) Q E s :=
  Calls.Name_function_global I.ok.kind hg (Calls.loadGlobal_global (by rw [I.ok.glob]; exact I.mod.glob.keeps I.bk) hm h) hd
theorem ld_blt {E : Value → Shared → Prop} {pins : List (Addr × Obj)} {s : Shared} {σ : St} {H : Hp} {x : Str} {u : Value} {pos : Pos} {Q : Value → Shared → Prop} (I : Inv X pins σ H s) (hg : Gl X x) (hm : X.mg x = none) (hv : bootBuiltins x = some u) (h : Q u s)
    (hn : x ≠ "__name__" := by decide) (hd : (x == ("__debug__" : Str)) = false := by decide) : wpAny (model X.prog X.w) X.A (eval (.Name x pos) X.env) Q E s := by
  obtain ⟨mb, h1, h2⟩ := I.mod.blt
  exact Calls.Name_function_global I.ok.kind hg (Calls.loadGlobal_builtin (by rw [I.ok.glob]; exact I.mod.glob.keeps I.bk) hm (by rw [I.ok.blt]; exact h1.keeps I.bk) ((h2 x hn).trans hv) h) hd
theorem pe_glob {x : Str} {v : V} {u : Value} {pos : Pos} (hg : Gl X x) (hm : X.mg x = some u) (r : RelV v u) (hd : (x == ("__debug__" : Str)) = false := by decide) : PE X (.Name x pos) (tC v) :=
  fun _ _ _ H _ I h => ld_glob I hg hm ⟨v, H, I, r, h⟩ hd
theorem pe_bltn {x : Str} {v : V} {u : Value} {pos : Pos} (hg : Gl X x) (hm : X.mg x = none) (hv : bootBuiltins x = some u) (r : RelV v u) (hn : x ≠ "__name__" := by decide) (hd : (x == ("__debug__" : Str)) = false := by decide) : PE X (.Name x pos) (tC v) :=
  fun _ _ _ H _ I h => ld_blt I hg hm hv ⟨v, H, I, r, h⟩ hn hd

variable {a b : Expr} {ta tb : TE} {pos : Pos}
def tB (t : TE) : TT := fun σ H Q => t σ H fun x H1 => ∃ c, x = .bl c ∧ Q c H1
theorem pt_val {e : Expr} {t : TE} (h : PE X e t) (he : ∀ whole, isTrue e X.env whole = (do let v ← whole; standAt e.pos; holding [v] (truthy v)) := by intro _; rfl) : PT X e (tB t) := by
  intro pins s σ H Q I hw
  refine isTrue_plain (thn (h pins s σ H _ I hw) fun v s1 ⟨x, H1, I1, r1, q1⟩ => ?_) (he _)
  obtain ⟨d, rfl, q⟩ := q1
  cases r1
  exact wpAny_truthy_bool ⟨H1, I1, q⟩

variable {tA tB' : TT} {rest : List Expr}
def tAnd (t u : TT) : TT := fun σ H Q => t σ H fun c H1 => if c = true then u σ H1 Q else Q false H1
def tOr (t u : TT) : TT := fun σ H Q => t σ H fun c H1 => if c = true then Q true H1 else u σ H1 Q
def tNot (t : TT) : TT := fun σ H Q => t σ H fun c H1 => Q (!c) H1
theorem pw_and1 (ha : PT X a tA) : PW X (.BoolOp .And [a] pos) tA := by
  intro wh pins s σ H Q I h
  refine isTrue_and (thn (ha pins s σ H Q I h) fun c s1 e => ?_)
  cases c with
  | true => exact isTrue_and_nil e
  | false => exact e
theorem pw_or1 (ha : PT X a tA) : PW X (.BoolOp .Or [a] pos) tA := by
  intro wh pins s σ H Q I h
  refine isTrue_or (thn (ha pins s σ H Q I h) fun c s1 e => ?_)
  cases c with
  | false => exact isTrue_or_nil e
  | true => exact e
theorem pw_and (ha : PT X a tA) (hb : PW X (.BoolOp .And (b :: rest) pos) tB') : PW X (.BoolOp .And (a :: b :: rest) pos) (tAnd tA tB') := by
  intro wh pins s σ H Q I h
  refine isTrue_and (thn (ha pins s σ H _ I h) fun c s1 ⟨H1, I1, q1⟩ => ?_)
  cases c with
  | true => exact hb wh pins s1 σ H1 Q I1 q1
  | false => exact ⟨H1, I1, q1⟩
theorem pw_or (ha : PT X a tA) (hb : PW X (.BoolOp .Or (b :: rest) pos) tB') : PW X (.BoolOp .Or (a :: b :: rest) pos) (tOr tA tB') := by
  intro wh pins s σ H Q I h
  refine isTrue_or (thn (ha pins s σ H _ I h) fun c s1 ⟨H1, I1, q1⟩ => ?_)
  cases c with
  | true => exact ⟨H1, I1, q1⟩
  | false => exact hb wh pins s1 σ H1 Q I1 q1
theorem pt_not (ha : PT X a tA) : PT X (.UnaryOp .Not a pos) (tNot tA) := by
  intro pins s σ H Q I h
  exact isTrue_not (ha pins s σ H (fun c H1 => Q (!c) H1) I h)
def tAndV (ta tb : TE) : TE := fun σ H Q => ta σ H fun x H1 => ∃ c, x = .bl c ∧ if c = true then tb σ H1 Q else Q (.bl false) H1
def tOrV (ta tb : TE) : TE := fun σ H Q => ta σ H fun x H1 => ∃ c, x = .bl c ∧ if c = true then Q (.bl true) H1 else tb σ H1 Q
def tNotV (ta : TE) : TE := fun σ H Q => ta σ H fun x H1 => ∃ c, x = .bl c ∧ Q (.bl (!c)) H1
theorem pe_one {op} {t : TE} (h : PE X a t) : PE X (.BoolOp op [a] pos) t := fun pins s σ H Q I hw => BoolOp_one (h pins s σ H Q I hw)
theorem pe_and (ha : PE X a ta) (hb : PE X (.BoolOp .And (b :: rest) pos) tb) : PE X (.BoolOp .And (a :: b :: rest) pos) (tAndV ta tb) := by
  intro pins s σ H Q I h
  refine BoolOp_and (thn (ha pins s σ H _ I h) fun v s1 ⟨x, H1, I1, r1, q1⟩ => ?_)
  obtain ⟨c, rfl, q1⟩ := q1
  cases r1
  refine wpAny_truthy_bool ?_
  cases c with
  | true => exact hb pins s1 σ H1 Q I1 q1
  | false => exact ⟨.bl false, H1, I1, rfl, q1⟩
def tIf (t : TT) (ta tb : TE) : TE := fun σ H Q => t σ H fun c H1 => if c = true then ta σ H1 Q else tb σ H1 Q
theorem pe_ifExp {c : Expr} (hc : PT X c tA) (ha : PE X a ta) (hb : PE X b tb) : PE X (.IfExp c a b pos) (tIf tA ta tb) := by
  intro pins s σ H Q I h
  refine wpAny_IfExp (thn (hc pins s σ H _ I h) fun d s1 ⟨H1, I1, q1⟩ => ?_)
  cases d with
  | true => exact ha pins s1 σ H1 Q I1 q1
  | false => exact hb pins s1 σ H1 Q I1 q1
end
end L2

namespace L2
open PySem PySem.Spec PyProof.Rows

def SqL (K : PySem.W.Frag) (H : Hp) (a : Addr) (xs : List V) : Prop :=
  Rd H a (.lst xs) ∨
    ∃ (o : Obj) (its : Array Value) (n : Nat), K.lookup a = some o ∧ o.cls = .type "list" ∧ o.dict = none ∧ o.data = .seq its n ∧ its.size ≤ sizeLine ∧ Vals xs its.toList
def SqT (K : PySem.W.Frag) (H : Hp) (a : Addr) (xs : List V) : Prop :=
  Rd H a (.tup xs) ∨
    ∃ (o : Obj) (its : Array Value) (n : Nat), K.lookup a = some o ∧ o.cls = .type "tuple" ∧ o.data = .seq its n ∧ its.size ≤ sizeLine ∧ Vals xs its.toList
def absV : Value → Option V
  | .none => some .non
  | .bool b => some (.bl b)
  | .int i _ => some (.int i)
  | .str x _ => some (.str x)
  | .bytes b _ => some (.byt b)
  | .float b _ => some (.flt b)
  | .ref a => some (.ref a)
  | .type n => some (.ty n)
  | _ => none
theorem RelV.abs {x : V} {u : Value} (r : RelV x u) : absV u = some x := by
  cases x with
  | non => cases r; rfl
  | bl _ => cases r; rfl
  | int _ => obtain ⟨t, rfl⟩ := r; rfl
  | str _ => obtain ⟨t, rfl⟩ := r; rfl
  | byt _ => obtain ⟨t, rfl⟩ := r; rfl
  | flt _ => obtain ⟨t, rfl⟩ := r; rfl
  | ref _ => cases r; rfl
  | ty _ => cases r; rfl
theorem RelV.inj {x y : V} {u : Value} (r : RelV x u) (q : RelV y u) : x = y := Option.some.inj (r.abs.symm.trans q.abs)
theorem Vals.inj : ∀ {xs ys : List V} {us : List Value}, Vals xs us → Vals ys us → xs = ys
  | _, _, _, .nil, .nil => rfl
  | _, _, _, .cons r t, .cons r' t' => by rw [r.inj r', Vals.inj t t']
section
variable {X : Cx} {pins : List (Addr × Obj)} {σ : St} {H : Hp} {s : Shared} {a : Addr} {xs ys : List V}
theorem SqL.of {K : PySem.W.Frag} (h : H a = some (.lst xs)) : SqL K H a xs := .inl (.inl h)
theorem SqT.of {K : PySem.W.Frag} (h : H a = some (.tup xs)) : SqT K H a xs := .inl (.inl h)
theorem Inv.list (I : Inv X pins σ H s) (h : SqL X.K H a xs) : ∃ its : List Value, Vals xs its ∧ PlainL s.heap a its.toArray ∧ xs.length ≤ sizeLine := by
  rcases h with h | ⟨o, its, n, hk, hc, hd, hs, hz, r⟩
  · obtain ⟨z, its, n, r, e⟩ := h.ok I.hok
    exact ⟨its, r, ⟨_, n, e, rfl, rfl, rfl⟩, z⟩
  · refine ⟨its.toList, r, ⟨o, n, I.kIn a o hk, hc, hd, by simpa using hs⟩, ?_⟩
    have e := r.length
    simp only [Array.length_toList] at e
    omega
theorem Inv.tuple (I : Inv X pins σ H s) (h : SqT X.K H a xs) : ∃ its : List Value, Vals xs its ∧ IsTup s.heap a its.toArray ∧ xs.length ≤ sizeLine := by
  rcases h with h | ⟨o, its, n, hk, hc, hs, hz, r⟩
  · obtain ⟨z, its, r, p⟩ := h.ok I.hok
    exact ⟨its, r, p, z⟩
  · refine ⟨its.toList, r, ⟨o, I.kIn a o hk, hc, n, by simpa using hs⟩, ?_⟩
    have e := r.length
    simp only [Array.length_toList] at e
    omega
theorem Inv.list_inj (I : Inv X pins σ H s) (h : SqL X.K H a xs) (h' : SqL X.K H a ys) : xs = ys := by
  obtain ⟨its, r, ⟨o, n, e, _, _, d⟩, _⟩ := I.list h
  obtain ⟨its', r', ⟨o', n', e', _, _, d'⟩, _⟩ := I.list h'
  rw [e] at e'; cases e'
  rw [d] at d'
  injection d' with d1 _
  have : its = its' := by simpa using congrArg Array.toList d1
  subst this
  exact r.inj r'
end

abbrev Cx.wish (X : Cx) (E : Value → Shared → Prop) : Cx := { X with xe := E }
abbrev Cx.nox (X : Cx) : Cx := X.wish fun _ _ => False
theorem Cx.Ok.wish {X : Cx} (ok : X.Ok) (E : Value → Shared → Prop) : (X.wish E).Ok :=
  ⟨ok.mod, ok.kind, ok.glob, ok.blt, ok.above, ok.inj, ok.has, ok.cab, ok.hd, ok.frames, ok.stk, ok.exf, ok.bs, ok.bsz, ok.noex, ok.exfs, ok.funs, ok.frf⟩
theorem Cx.Ok.unwish {X : Cx} {E : Value → Shared → Prop} (ok : (X.wish E).Ok) : X.Ok :=
  ⟨ok.mod, ok.kind, ok.glob, ok.blt, ok.above, ok.inj, ok.has, ok.cab, ok.hd, ok.frames, ok.stk, ok.exf, ok.bs, ok.bsz, ok.noex, ok.exfs, ok.funs, ok.frf⟩
section
variable {X : Cx} {pins : List (Addr × Obj)} {σ : St} {H : Hp} {s : Shared} {E : Value → Shared → Prop}
theorem Inv.wish (I : Inv X pins σ H s) (E : Value → Shared → Prop) : Inv (X.wish E) pins σ H s := ⟨I.ok.wish E, I.os, I.bare, I.base, I.loc, I.cell, I.free, I.freeC, I.pin, I.hok, I.len⟩
theorem Inv.unwish (I : Inv (X.wish E) pins σ H s) : Inv X pins σ H s := ⟨I.ok.unwish, I.os, I.bare, I.base, I.loc, I.cell, I.free, I.freeC, I.pin, I.hok, I.len⟩
theorem SP.unwish {D : Ends} {f : Flow} {s' : Shared} (h : SP (X.wish E) pins D f s') : SP X pins D f s' := by
  cases f with
  | next => obtain ⟨σ', H', I, q⟩ := h; exact ⟨σ', H', I.unwish, q⟩
  | brk => obtain ⟨σ', H', I, q⟩ := h; exact ⟨σ', H', I.unwish, q⟩
  | cont => obtain ⟨σ', H', I, q⟩ := h; exact ⟨σ', H', I.unwish, q⟩
  | ret u => obtain ⟨v, σ', H', I, r, q⟩ := h; exact ⟨v, σ', H', I.unwish, r, q⟩
theorem PE.nox {e : Expr} {t : TE} (h : PE X.nox e t) : PE X e t := fun pins s σ H Q I hw =>
  wpAny_mono (h pins s σ H Q (I.wish _) hw) (fun _ _ ⟨v, H', I', r, q⟩ => ⟨v, H', I'.unwish, r, q⟩) fun _ _ z => False.elim z
theorem PT.nox {e : Expr} {t : TT} (h : PT X.nox e t) : PT X e t := fun pins s σ H Q I hw =>
  wpAny_mono (h pins s σ H Q (I.wish _) hw) (fun _ _ ⟨H', I', q⟩ => ⟨H', I'.unwish, q⟩) fun _ _ z => False.elim z
theorem PSs.nox {st : List Stmt} {t : TS} (h : PSs X.nox st t) : PSs X st t := fun pins s σ H D I hw =>
  wpAny_mono (h pins s σ H D (I.wish _) hw) (fun _ _ q => q.unwish) fun _ _ z => False.elim z
end

section
variable {X : Cx} {st : Stmt} {rest : List Stmt} {t u : TS} {e : Expr} {te : TE} {pos : Pos}
def tNext : TS := fun D σ H => D.nx σ H
def tSeq (t u : TS) : TS := fun D σ H => t { D with nx := u D } σ H
theorem pss_nil : PSs X [] tNext := fun _ _ σ H _ I h => wpAny_execs_nil ⟨σ, H, I, h⟩
theorem pss_cons (h1 : PS X st t) (h2 : PSs X rest u) : PSs X (st :: rest) (tSeq t u) := by
  intro pins s σ H D I h
  refine wpAny_execs_cons (thn (h1 pins s σ H { D with nx := u D } I h) fun f s1 q => ?_)
  cases f with
  | next =>
    obtain ⟨σ', H', I', q⟩ := q
    exact h2 pins s1 σ' H' D I' q
  | ret v => exact q
  | brk => exact q
  | cont => exact q
theorem pss_one (h1 : PS X st t) : PSs X [st] t := by
  intro pins s σ H D I h
  refine wpAny_execs_cons (thn (h1 pins s σ H D I h) fun f s1 q => ?_)
  cases f with
  | next => exact wpAny_execs_nil q
  | ret v => exact q
  | brk => exact q
  | cont => exact q
theorem Inv.quiet {pins : List (Addr × Obj)} {σ : St} {H : Hp} {s : Shared} (I : Inv X pins σ H s) : interactive X.env = false := by simp [interactive, I.ok.kind]
def tDrop (te : TE) : TS := fun D σ H => te σ H fun _ H1 => D.nx σ H1
theorem ps_expr (he : PE X e te) (hs : swapsWith e none pos.line X.env = pure false := by rfl) : PS X (.Expr e pos) (tDrop te) := by
  intro pins s σ H D I h
  exact wpAny_Expr_any (thn (he pins s σ H _ I h) fun v s1 ⟨x, H1, I1, r1, q1⟩ => ⟨σ, H1, I1, q1⟩) I.quiet hs
def tRet (te : TE) : TS := fun D σ H => te σ H D.rt
theorem ps_ret (he : PE X e te) : PS X (.Return (some e) pos) (tRet te) := by
  intro pins s σ H D I h
  exact wpAny_Return_some (thn (he pins s σ H _ I h) fun v s1 ⟨x, H1, I1, r1, q1⟩ => ⟨x, σ, H1, I1, r1, q1⟩)
def tIfS (c : TT) (t u : TS) : TS := fun D σ H => c σ H fun b H1 => if b = true then t D σ H1 else u D σ H1
theorem ps_if {c : Expr} {a b : List Stmt} {tc : TT} (hc : PT X c tc) (ha : PSs X a t) (hb : PSs X b u) : PS X (.If c a b pos) (tIfS tc t u) := by
  intro pins s σ H D I h
  refine wpAny_If (thn (hc pins s σ H _ I h) fun d s1 ⟨H1, I1, q1⟩ => ?_)
  cases d with
  | true => exact ha pins s1 σ H1 D I1 q1
  | false => exact hb pins s1 σ H1 D I1 q1
def tNever : TS := fun _ _ _ => False
theorem ps_never : PS X st tNever := fun _ _ _ _ _ _ h => h.elim
end

abbrev TG := V → St → Hp → (St → Hp → Prop) → Prop
abbrev TGs := List V → St → Hp → (St → Hp → Prop) → Prop
def PG (X : Cx) (target : Expr) (t : TG) : Prop :=
  ∀ (pins : List (Addr × Obj)) (s : Shared) (σ : St) (H : Hp) (v : V) (u : Value) (Q : St → Hp → Prop), Inv X pins σ H s → RelV v u → t v σ H Q →
    wpAny (model X.prog X.w) X.A (assign target X.env u) (fun _ s' => ∃ σ' H', Inv X pins σ' H' s' ∧ Q σ' H') X.xe s
def PGs (X : Cx) (ts : List Expr) (t : TGs) : Prop :=
  ∀ (pins : List (Addr × Obj)) (s : Shared) (σ : St) (H : Hp) (vs : List V) (us : List Value) (Q : St → Hp → Prop), Inv X pins σ H s → Vals vs us → t vs σ H Q →
    wpAny (model X.prog X.w) X.A (assignInOrder ((assignEach ts X.env).map (·.2)) us) (fun _ s' => ∃ σ' H', Inv X pins σ' H' s' ∧ Q σ' H') X.xe s
abbrev TSet := V → V → V → Hp → (Hp → Prop) → Prop
abbrev TIp := V → V → Hp → VK → Prop
section
variable {X : Cx} {pos : Pos}
def gName (i : Nat) : TG := fun v σ H Q => Q (σ.set i (some v)) H
theorem pg_name {i : Nat} {x : Str} (hN : X.N.Nodup) (hi : X.N[i]? = some x) (hx : Loc X.env.scope x) (hf : X.fn x = true ∨ X.env.scope.names.lookup x = some .local := by first | exact .inl rfl | exact .inr rfl | assumption) : PG X (.Name x pos) (gName i) := by
  intro pins s σ H v u Q I r h
  exact wpAny_assign_Name (store_ok I hN hi hx r (fun s' I' => ⟨_, H, I', h⟩) hf)
def gNil : TGs := fun vs σ H Q => vs = [] ∧ Q σ H
def gCons (t : TG) (u : TGs) : TGs := fun vs σ H Q => ∃ v r, vs = v :: r ∧ t v σ H fun σ' H' => u r σ' H' Q
theorem pgs_nil : PGs X [] gNil := by
  intro pins s σ H vs us Q I r h
  obtain ⟨e, h⟩ := h
  subst e
  cases r
  exact assignInOrder_nil ⟨σ, H, I, h⟩
theorem pgs_cons {e : Expr} {es : List Expr} {t : TG} {u : TGs} (h1 : PG X e t) (h2 : PGs X es u)
    (hs : (assignEach (e :: es) X.env).map (·.2) = assign e X.env :: (assignEach es X.env).map (·.2) := by rfl) : PGs X (e :: es) (gCons t u) := by
  intro pins s σ H vs us Q I r h
  obtain ⟨v, vr, e1, h⟩ := h
  subst e1
  cases r with
  | cons r rr =>
    rw [hs]
    refine assignInOrder_cons (thn (h1 pins s σ H _ _ _ I r h) fun _ s1 ⟨σ1, H1, I1, q1⟩ => ?_)
    exact h2 pins s1 σ1 H1 _ _ Q I1 rr q1
def gTup (K : PySem.W.Frag) (n : Nat) (t : TGs) : TG := fun v σ H Q => ∃ a xs, v = .ref a ∧ SqT K H a xs ∧ xs.length = n ∧ t xs σ H Q
theorem pg_tup {es : List Expr} {k : Nat} {t : TGs} {n : Nat} (hc : X.calm = true) (h : PGs X es t)
    (hn : (assignEach es X.env).length = n := by rfl) (hst : (assignEach es X.env).findIdx? (·.1) = none := by rfl) : PG X (.Tuple es k pos) (gTup X.K n t) := by
  intro pins s σ H v u Q I r hw
  obtain ⟨a, xs, e1, hq, hl, hw⟩ := hw
  subst e1
  cases r
  obtain ⟨its, rv, ht, hz⟩ := I.tuple hq
  refine assign_Tuple_tuple (I.ok.hd hc) ht (by simp [hn, ← hl, rv.length]) hst fun h' hx => ?_
  have I1 : Inv X pins σ H { s with heap := h' } := I.kept (t' := s.toks) fun b o e => hx b o (Nat.ne_of_lt (Heap.lt_size e)) e
  exact h pins _ σ H xs _ Q I1 (by simpa using rv) hw
def gSub (to ti : TE) (t : TSet) : TG := fun v σ H Q => to σ H fun o H1 => ti σ H1 fun i H2 => t o i v H2 fun H3 => Q σ H3
def tAsg (te : TE) (g : TG) : TS := fun D σ H => te σ H fun x H1 => g x σ H1 D.nx
theorem ps_set {i : Nat} {x : Str} {e : Expr} {te : TE} {pos' : Pos} (hN : X.N.Nodup) (hi : X.N[i]? = some x) (hx : Loc X.env.scope x) (he : PE X e te) (hs : swapsWith e (some (.Name x pos')) pos.line X.env = pure false := by rfl) (hf : X.fn x = true ∨ X.env.scope.names.lookup x = some .local := by first | exact .inl rfl | exact .inr rfl | assumption) :
    PS X (.Assign [.Name x pos'] e pos) (tAsg te (gName i)) := by
  intro pins s σ H D I h
  refine wpAny_Assign_Name (thn (he pins s σ H _ I h) fun v s1 ⟨y, H1, I1, r1, q1⟩ => ?_) hs
  exact store_ok I1 hN hi hx r1 (fun s2 I2 => ⟨_, H1, I2, q1⟩) hf
def tAug (i : Nat) (te : TE) (ti : TIp) : TS := fun D σ H => ∃ x, σ[i]? = some (some x) ∧ te σ H fun y H1 => ti x y H1 fun z H2 => D.nx (σ.set i (some z)) H2
def ipI (f : Int → Int → Int) : TIp := fun x y H Q => ∃ i j, x = .int i ∧ y = .int j ∧ Q (.int (f i j)) H
end

section
variable {X : Cx} {pos : Pos}
def tWhile (c : TT) (tb : TS) : TS := fun D σ H => ∃ W : Nat → St → Hp → Prop, (∃ m, W m σ H) ∧ ∀ m σ H, W m σ H →
  c σ H fun b H1 => if b = true then ∃ N : St → Hp → Prop, (∀ σ' H', N σ' H' → ∃ m', m' < m ∧ W m' σ' H') ∧ tb { D with nx := N, ct := N, bk := D.nx } σ H1 else D.nx σ H1
theorem ps_while {c : Expr} {body : List Stmt} {tc : TT} {tb : TS} (hp : PassesOwn (model X.prog X.w) X.A X.env X.xe) (hc : PT X c tc) (hb : PSs X body tb) : PS X (.While c body [] pos) (tWhile tc tb) := by
  intro pins s σ H D I h
  obtain ⟨W, ⟨m0, w0⟩, turn⟩ := h
  refine wpAny_While (codeAny_whileLoop (fun n s' => ∃ σ' H', Inv X pins σ' H' s' ∧ W n σ' H') ?_ m0 ⟨σ, H, I, w0⟩)
  rintro n s1 ⟨σ1, H1, I1, w1⟩
  refine wpAny_passesOwn hp (thn (hc pins s1 σ1 H1 _ I1 (turn n σ1 H1 w1)) fun b s2 ⟨H2, I2, q2⟩ => ?_)
  cases b with
  | true =>
    obtain ⟨N, hN, q2⟩ := q2
    rw [if_pos rfl]
    refine wpAny_passesOwn hp (thn (hb pins s2 σ1 H2 _ I2 q2) fun f s3 q3 => ?_)
    cases f with
    | next =>
      obtain ⟨σ3, H3, I3, n3⟩ := q3
      obtain ⟨m', hm, w3⟩ := hN σ3 H3 n3
      exact ⟨m', hm, σ3, H3, I3, w3⟩
    | cont =>
      obtain ⟨σ3, H3, I3, n3⟩ := q3
      obtain ⟨m', hm, w3⟩ := hN σ3 H3 n3
      exact ⟨m', hm, σ3, H3, I3, w3⟩
    | brk => exact q3
    | ret v => exact q3
  | false =>
    rw [if_neg Bool.false_ne_true]
    exact wpAny_execs_nil ⟨σ1, H2, I2, q2⟩
end

structure It where
  go : Nat → Hp → Prop
  yld : Nat → Hp → V → Hp → Prop
  stop : Nat → Hp → Prop
def FpOk (X : Cx) (pins : List (Addr × Obj)) (H : Hp) (b : Addr) : Prop :=
  H b = none ∧ b ≠ X.env.locals ∧ b ∉ X.fs ∧ (b ∈ X.ex ∨ X.s₀.heap.objs.size ≤ b) ∧ (∀ x c, X.env.cells.lookup x = some c → c ≠ b) ∧ ∀ p ∈ X.pn ++ pins, p.1 ≠ b
theorem Inv.fpOk {X : Cx} {pins : List (Addr × Obj)} {σ : St} {H H' : Hp} {s : Shared} {b : Addr} (I : Inv X pins σ H s) (hb : s.heap.objs.size ≤ b) (hn : H' b = none) : FpOk X pins H' b := by
  refine ⟨hn, Nat.ne_of_gt (Nat.lt_of_lt_of_le I.lt hb), I.nofs hb, .inr (Nat.le_trans I.sz hb), fun x c e z => ?_, fun p hp z => ?_⟩
  · obtain ⟨v, q⟩ := I.cell x c e
    exact absurd (Nat.lt_of_lt_of_le q.lt (by rw [z]; exact hb)) (Nat.lt_irrefl _)
  · exact absurd (Nat.lt_of_lt_of_le (Heap.lt_size (I.pin p hp).1) (by rw [z]; exact hb)) (Nat.lt_irrefl _)
structure Turn (P : Program) (w : World) (K : PySem.W.Frag) (tg : Expr) (J : It) (fp : List Addr) (it : Addr) (tn : Nat → Heap → Prop) : Prop where
  mem : it ∈ fp
  obj : ∀ i h, tn i h → ∀ b ∈ fp, ∃ o, h.get? b = some o ∧ ∀ v, o.data ≠ .cell v
  keep : ∀ i h h', tn i h → (∀ b ∈ fp, ∀ o, h.get? b = some o → h'.get? b = some o) → tn i h'
  item : ∀ (X : Cx), X.prog = P → X.w = w → X.K = K → X.calm = true → ∀ (i : Nat) (pins : List (Addr × Obj)) (s : Shared) (σ : St) (H : Hp) (E : Value → Shared → Prop), Inv X pins σ H s → (∀ b ∈ fp, FpOk X pins H b) → tn i s.heap → J.go i H →
    wpAny (model P w) X.A (pyNext (.ref it)) (fun r s1 => ∃ u, r = some u ∧
      wpAny (model P w) X.A (letOwnedTupleGo tg (.ref it) u) (fun _ s2 => ∃ x H', Inv X pins σ H' s2 ∧ RelV x u ∧ J.yld i H x H' ∧ tn (i + 1) s2.heap ∧ ∀ b ∈ fp, H' b = none) E s1) E s
  done : ∀ (X : Cx), X.prog = P → X.w = w → X.K = K → X.calm = true → ∀ (i : Nat) (pins : List (Addr × Obj)) (s : Shared) (σ : St) (H : Hp) (E : Value → Shared → Prop), Inv X pins σ H s → (∀ b ∈ fp, FpOk X pins H b) → tn i s.heap → J.stop i H →
    wpAny (model P w) X.A (pyNext (.ref it)) (fun r s1 => r = none ∧ Inv X pins σ H s1) E s
  self : ∀ (A : Around) (i : Nat) (s : Shared) (Q : Value → Shared → Prop) (E : Value → Shared → Prop), tn i s.heap → Q (.ref it) s → wpAny (model P w) A (pyIter (.ref it)) Q E s
abbrev TI := St → Hp → (It → Hp → Prop) → Prop
def PIE (X : Cx) (pins : List (Addr × Obj)) (σ : St) (tg : Expr) (R : It → Hp → Prop) (itv : Value) (s2 : Shared) : Prop :=
  ∃ (it : Addr) (fp : List Addr) (tn : Nat → Heap → Prop) (J : It) (H' : Hp), itv = .ref it ∧ Inv X pins σ H' s2 ∧ Turn X.prog X.w X.K tg J fp it tn ∧ tn 0 s2.heap ∧ (∀ b ∈ fp, FpOk X pins H' b) ∧ R J H'
def PI (X : Cx) (tg iter : Expr) (wi : TI) : Prop :=
  ∀ (pins : List (Addr × Obj)) (s : Shared) (σ : St) (H : Hp) (R : It → Hp → Prop), Inv X pins σ H s → wi σ H R →
    wpAny (model X.prog X.w) X.A (eval iter X.env) (fun v s1 => wpAny (model X.prog X.w) X.A (pyIter v) (PIE X pins σ tg R) X.xe s1) X.xe s

theorem go_of {M : Model} {A : Around} {E : Value → Shared → Prop} {s : Shared} {tg : Expr} {it : Addr} {u : Value} {o : Obj} {n : String} {vs : Array Value} {Q : Unit → Shared → Prop} (ho : s.heap.get? it = some o) (hc : o.cls = .type n) (hd : o.data = .fields vs)
    (hn : ["enumerate", "zip", "dict_itemiterator", "dict_reverseitemiterator", "odict_iterator", "itertools.zip_longest", "itertools.pairwise"].contains n = false) (hQ : Q () s) : wpAny M A (letOwnedTupleGo tg (.ref it) u) Q E s := by
  unfold letOwnedTupleGo
  cases tg <;> first
    | exact wpAny_pure hQ
    | (cases u <;> first
        | exact wpAny_pure hQ
        | (refine wpAny_bind (wpAny_load ho ?_)
           rw [hc, hd]
           show wpAny M A (if (["enumerate", "zip", "dict_itemiterator", "dict_reverseitemiterator", "odict_iterator", "itertools.zip_longest", "itertools.pairwise"].contains n && vs[0]? == some (rawInt _)) = true then _ else _) Q E s
           rw [if_neg (by intro h; rw [hn, Bool.false_and] at h; cases h)]
           exact wpAny_pure hQ))

def Itl (K : PySem.W.Frag) (a : Addr) : It :=
  ⟨fun i H => ∃ xs x, SqL K H a xs ∧ xs[i]? = some x, fun i H x H' => H' = H ∧ ∀ xs, SqL K H a xs → xs[i]? = some x, fun i H => ∃ xs, SqL K H a xs ∧ xs.length ≤ i⟩
def Itt (K : PySem.W.Frag) (a : Addr) : It :=
  ⟨fun i H => ∃ xs x, SqT K H a xs ∧ xs[i]? = some x, fun i H x H' => H' = H ∧ ∀ xs, SqT K H a xs → xs[i]? = some x, fun i H => ∃ xs, SqT K H a xs ∧ xs.length ≤ i⟩
def Itr (lo : Int) (n : Nat) : It := ⟨fun i _ => i < n, fun i H x H' => H' = H ∧ x = .int (lo + i), fun i _ => n ≤ i⟩
theorem turn_list {P : Program} {w : World} {K : PySem.W.Frag} {tg : Expr} (a it : Addr) : Turn P w K tg (Itl K a) [it] it (fun i h => h.IsListIter it a i) where
  mem := by simp
  obj := fun i h st b hb => by
    have e : b = it := by simpa using hb
    subst e
    obtain ⟨o, e, c, d⟩ := st
    exact ⟨o, e, fun v z => by rw [d] at z; cases z⟩
  keep := fun i h h' st k => st.at fun o e => k it (by simp) o e
  item := by
    intro X hP hw hK hc i pins s σ H E I hf st hg
    subst hP hw hK
    obtain ⟨xs, x, hq, hx⟩ := hg
    obtain ⟨its, rv, p, hz⟩ := I.list hq
    obtain ⟨u, hu, ru⟩ := rv.get hx
    obtain ⟨f0, f1, f2, f3, f4, f5⟩ := hf it (by simp)
    refine wpAny_pyNext_list_item st p.isList (x := u) (by simpa using hu) fun h' st' sb => ?_
    have I1 : Inv X pins σ H { s with heap := h' } := I.turned (t' := s.toks) (fun b o hb e => (sb.2 b hb).trans e) f0 f1 f3 f4 f5
    obtain ⟨o, e, c, d⟩ := id st'
    exact ⟨u, rfl, go_of (s := { s with heap := h' }) e c d (by decide) ⟨x, H, I1, ru, ⟨rfl, fun ys hy => by rw [I.list_inj hy hq]; exact hx⟩, st', fun b hb => (hf b hb).1⟩⟩
  done := by
    intro X hP hw hK hc i pins s σ H E I hf st hg
    subst hP hw hK
    obtain ⟨xs, hq, hx⟩ := hg
    obtain ⟨its, rv, p, hz⟩ := I.list hq
    obtain ⟨f0, f1, f2, f3, f4, f5⟩ := hf it (by simp)
    have hl := rv.length
    exact wpAny_pyNext_list_end (I.ok.hd hc) st p.isList (by simp; omega) fun h' eb => ⟨rfl, I.turned (t' := s.toks) (fun b o hb e => eb b o hb e) f0 f1 f3 f4 f5⟩
  self := fun _ _ _ _ _ st h => wpAny_pyIter_listiter st h
theorem turn_range {P : Program} {w : World} {K : PySem.W.Frag} {tg : Expr} (it : Addr) (lo : Int) (n : Nat) : Turn P w K tg (Itr lo n) [it] it (fun i h => IsRangeIter h it (lo + (i : Nat) * 1) ((n : Int) - (i : Nat)) 1) where
  mem := by simp
  obj := fun i h st b hb => by
    have e : b = it := by simpa using hb
    subst e
    exact ⟨_, st, fun v z => by
      have z' : Data.fields _ = Data.cell v := z
      cases z'⟩
  keep := fun i h h' st k => k it (by simp) _ st
  item := by
    intro X hP hw hK hc i pins s σ H E I hf st hg
    subst hP hw hK
    obtain ⟨f0, f1, f2, f3, f4, f5⟩ := hf it (by simp)
    have W := Walks.range (prog := X.prog) (w := X.w) (I.ok.hd hc) it lo 1 n
    refine W.item i s _ _ hg st fun v h' tk hv st' kk => ?_
    obtain ⟨t, rfl⟩ := hv
    have I1 : Inv X pins σ H { s with heap := h', toks := tk } := I.turned (fun b o hb e => kk b o (by simpa using hb) e) f0 f1 f3 f4 f5
    refine ⟨_, rfl, go_of (s := { s with heap := h', toks := tk }) (n := "range_iterator") st' rfl rfl (by decide) ⟨.int (lo + i), H, I1, ⟨t, ?_⟩, ⟨rfl, rfl⟩, st', fun b hb => (hf b hb).1⟩⟩
    rw [Int.mul_one]
  done := by
    intro X hP hw hK hc i pins s σ H E I hf st hg
    subst hP hw hK
    obtain ⟨f0, f1, f2, f3, f4, f5⟩ := hf it (by simp)
    exact wpAny_pyNext_range_end (I.ok.hd hc) st (by have : n ≤ i := hg; omega) fun h' eb => ⟨rfl, I.turned (t' := s.toks) (fun b o hb e => eb b o hb e) f0 f1 f3 f4 f5⟩
  self := fun _ _ _ _ _ st h => wpAny_pyIter_rangeiter st h
end L2

namespace L2
open PySem PySem.Spec PyProof.Rows
section
variable {X : Cx} {tg : Expr}
def iList (K : PySem.W.Frag) (tl : TE) : TI := fun σ H R => tl σ H fun x H1 => ∃ a, x = .ref a ∧ (∃ xs, SqL K H1 a xs) ∧ R (Itl K a) H1
def iTup (K : PySem.W.Frag) (tl : TE) : TI := fun σ H R => tl σ H fun x H1 => ∃ a, x = .ref a ∧ (∃ xs, SqT K H1 a xs) ∧ R (Itt K a) H1
theorem pi_list {l : Expr} {tl : TE} (hl : PE X l tl) : PI X tg l (iList X.K tl) := by
  intro pins s σ H R I h
  refine thn (hl pins s σ H _ I h) fun v s1 ⟨x, H1, I1, r1, q1⟩ => ?_
  obtain ⟨a, e, ⟨xs, hq⟩, q⟩ := q1
  subst e
  cases r1
  obtain ⟨its, rv, p, hz⟩ := I1.list hq
  refine wpAny_pyIter_list p.isList ?_
  refine ⟨s1.heap.objs.size, [s1.heap.objs.size], _, _, H1, rfl, I1.kept (t' := s1.toks) fun b o e => Heap.get?_push_of_some _ e, turn_list a _, ⟨_, Heap.get?_push_size _ rfl, rfl, rfl⟩, fun b hb => ?_, q⟩
  have e : b = s1.heap.objs.size := by simpa using hb
  subst e
  exact I1.fpOk (Nat.le_refl _) (I1.hok.fresh (Nat.le_refl _))
theorem range_it {pins : List (Addr × Obj)} {σ : St} {H : Hp} {s : Shared} {R : It → Hp → Prop} {E : Value → Shared → Prop} {lo hi : Int} {t u v : Tok} {tk : Nat} (I : Inv X pins σ H s) (h1 : -(2 ^ 62) ≤ lo) (h2 : lo < 2 ^ 62) (h3 : -(2 ^ 62) ≤ hi) (h4 : hi < 2 ^ 62)
    (q : R (Itr lo (hi - lo).toNat) H) : wpAny (model X.prog X.w) X.A (pyIter (.ref s.heap.objs.size)) (PIE X pins σ tg R) E { s with heap := s.heap.push { cls := .type "range", data := .fields #[.int lo t, .int hi u, .int 1 v] }, toks := tk } := by
  refine wpAny_pyIter_range (IsRange.new ..) (small_one h1 h2 h3 h4) ?_
  have I1 : Inv X pins σ H { s with heap := s.heap.push { cls := .type "range", data := .fields #[.int lo t, .int hi u, .int 1 v] }, toks := tk } := I.kept fun b o e => Heap.get?_push_of_some _ e
  refine ⟨(s.heap.push { cls := .type "range", data := .fields #[.int lo t, .int hi u, .int 1 v] }).objs.size, [(s.heap.push { cls := .type "range", data := .fields #[.int lo t, .int hi u, .int 1 v] }).objs.size], _, _, H, rfl,
    I1.kept (t' := tk) fun b o e => Heap.get?_push_of_some _ e, turn_range _ lo (hi - lo).toNat, ?_, fun b hb => ?_, q⟩
  · have e1 : lo + ((0 : Nat) : Int) * 1 = lo := by simp
    have e2 : (((hi - lo).toNat : Nat) : Int) - ((0 : Nat) : Int) = Builtin.Range.rangeSize lo hi 1 := by rw [rangeSize_one]; split <;> omega
    show IsRangeIter _ _ (lo + ((0 : Nat) : Int) * 1) ((((hi - lo).toNat : Nat) : Int) - ((0 : Nat) : Int)) 1
    rw [e1, e2]
    exact Heap.get?_push_size _ rfl
  · have e : b = (s.heap.push { cls := .type "range", data := .fields #[.int lo t, .int hi u, .int 1 v] }).objs.size := by simpa using hb
    subst e
    exact I1.fpOk (Nat.le_refl _) (I1.hok.fresh (Nat.le_refl _))
def iRng1 (ta : TA) : TI := fun σ H R => ta σ H fun vs H1 => ∃ j : Int, vs = [.int j] ∧ -(2 ^ 62) ≤ j ∧ j < 2 ^ 62 ∧ R (Itr 0 j.toNat) H1
def iRng2 (ta : TA) : TI := fun σ H R => ta σ H fun vs H1 => ∃ i j : Int, vs = [.int i, .int j] ∧ (-(2 ^ 62) ≤ i ∧ i < 2 ^ 62 ∧ -(2 ^ 62) ≤ j ∧ j < 2 ^ 62) ∧ R (Itr i (j - i).toNat) H1
theorem pi_range1 {a : Expr} {ta : TA} {p pos : Pos} (hg : Gl X "range") (hm : X.mg "range" = none) (ha : PA X [a] ta) (hs : starEach [a] X.env = [(false, eval a X.env)] := by rfl) : PI X tg (.Call (.Name "range" p) [a] [] pos) (iRng1 ta) := by
  intro pins s σ H R I h
  refine Call_ (ld_blt I hg hm boot_range (PyProof.Rows.callWith_type1 (thn (ha pos pins s σ H _ I h) fun us s1 ⟨vs, H1, I1, r1, q1⟩ => ?_) hs rfl))
  obtain ⟨j, e, q1, q2, q⟩ := q1
  subst e
  cases r1 with
  | cons r rr =>
    cases rr
    obtain ⟨t, rfl⟩ := r
    exact call_range_1 (range_it I1 (by omega) (by omega) q1 q2 (by simpa using q))
theorem pi_range2 {a b : Expr} {ta : TA} {p pos : Pos} (hg : Gl X "range") (hm : X.mg "range" = none) (ha : PA X [a, b] ta) (hs : starEach [a, b] X.env = [(false, eval a X.env), (false, eval b X.env)] := by rfl) (hs2 : starEach [b] X.env = [(false, eval b X.env)] := by rfl) :
    PI X tg (.Call (.Name "range" p) [a, b] [] pos) (iRng2 ta) := by
  intro pins s σ H R I h
  refine Call_ (ld_blt I hg hm boot_range (PyProof.Rows.callWith_type1 (thn (ha pos pins s σ H _ I h) fun us s1 ⟨vs, H1, I1, r1, q1⟩ => ?_) (by rw [hs, hs2]) (by rw [hs2]; rfl)))
  obtain ⟨i, j, e, ⟨q1, q2, q3, q4⟩, q⟩ := q1
  subst e
  cases r1 with
  | cons r rr =>
    cases rr with
    | cons r' rr =>
      cases rr
      obtain ⟨t, rfl⟩ := r
      obtain ⟨t', rfl⟩ := r'
      exact call_range_2 (range_it I1 q1 q2 q3 q4 q)

def tFor (wi : TI) (g : TG) (tb : TS) : TS := fun D σ H => wi σ H fun J H1 => ∃ W : Nat → Nat → St → Hp → Prop, (∃ m, W 0 m σ H1) ∧ ∀ i m σ H, W i m σ H →
  (J.stop i H ∧ D.nx σ H) ∨ (J.go i H ∧ ∃ N : St → Hp → Prop, (∀ σ' H', N σ' H' → ∃ m', m' < m ∧ W (i + 1) m' σ' H') ∧ ∀ x H', J.yld i H x H' → g x σ H' fun σ2 H2 => tb { D with nx := N, ct := N, bk := D.nx } σ2 H2)
def pinsAt (fp : List Addr) (h : Heap) : List (Addr × Obj) := fp.filterMap fun b => (h.get? b).map fun o => (b, o)
theorem mem_pinsAt {fp : List Addr} {h : Heap} {b : Addr} {o : Obj} (hb : b ∈ fp) (e : h.get? b = some o) : (b, o) ∈ pinsAt fp h := List.mem_filterMap.mpr ⟨b, hb, by rw [e]; rfl⟩
theorem of_pinsAt {fp : List Addr} {h : Heap} {p : Addr × Obj} (hp : p ∈ pinsAt fp h) : p.1 ∈ fp ∧ h.get? p.1 = some p.2 := by
  obtain ⟨b, hb, e⟩ := List.mem_filterMap.mp hp
  cases q : h.get? b with
  | none => rw [q] at e; cases e
  | some o =>
    rw [q] at e
    have e' : (b, o) = p := Option.some.inj e
    subst e'
    exact ⟨hb, q⟩
theorem Inv.pinned {pins : List (Addr × Obj)} {σ : St} {H : Hp} {s : Shared} {fp : List Addr} (I : Inv X pins σ H s) (hf : ∀ b ∈ fp, FpOk X pins H b) (ho : ∀ b ∈ fp, ∃ o, s.heap.get? b = some o ∧ ∀ v, o.data ≠ .cell v) : Inv X (pins ++ pinsAt fp s.heap) σ H s :=
  I.pins_of fun p hp => (List.mem_append.mp hp).elim (fun z => I.pin p (List.mem_append_right _ z)) fun z => by
    obtain ⟨hb, e⟩ := of_pinsAt z
    obtain ⟨f0, f1, f2, _⟩ := hf p.1 hb
    obtain ⟨o, e', d⟩ := ho p.1 hb
    rw [e] at e'; cases e'
    exact ⟨e, f0, f1, f2, d⟩
theorem Inv.unpinned {pins pl : List (Addr × Obj)} {σ : St} {H : Hp} {s : Shared} (I : Inv X (pins ++ pl) σ H s) : Inv X pins σ H s := I.pins_of fun p hp => I.pin p (List.mem_append_right _ (List.mem_append_left _ hp))
theorem ps_for {iter : Expr} {body : List Stmt} {wi : TI} {g : TG} {tb : TS} {pos : Pos} (hp : PassesOwn (model X.prog X.w) X.A X.env X.xe) (hc : X.calm = true) (hi : PI X tg iter wi) (hg : PG X tg g) (hb : PSs X body tb)
    (hs : ∀ x, foldedSetIterable iter X.env x = pure x := by intro _; rfl) : PS X (.For tg iter body [] pos) (tFor wi g tb) := by
  intro pins s σ H D I h
  refine wpAny_For (thn (hi pins s σ H _ I h) fun v s1 h1 => thn h1 fun itv s2 h2 => ?_) hs
  obtain ⟨it, fp, tn, J, H2, e, I2, T, st2, f2, W, ⟨m0, w0⟩, turn⟩ := h2
  subst e
  -- what stays true of the iterator's objects through the loop
  have stat : ∀ {H' : Hp}, (∀ b ∈ fp, H' b = none) → ∀ b ∈ fp, FpOk X pins H' b := fun hn b hb => ⟨hn b hb, (f2 b hb).2⟩
  refine codeAny_forLoop_any (fun n s' => ∃ i σ' H', Inv X pins σ' H' s' ∧ tn i s'.heap ∧ (∀ b ∈ fp, H' b = none) ∧ W i n σ' H') ?_ m0 ⟨0, σ, H2, I2, st2, fun b hb => (f2 b hb).1, w0⟩
  rintro n s3 ⟨i, σ3, H3, I3, st3, fr3, w3⟩
  rcases turn i n σ3 H3 w3 with ⟨stop, qn⟩ | ⟨go, N, hN, step⟩
  · refine wpAny_passesOwn hp (thn (T.done X rfl rfl rfl hc i pins s3 σ3 H3 X.xe I3 (stat fr3) st3 stop) fun r s4 ⟨hr, I4⟩ => ?_)
    subst hr
    exact wpAny_execs_nil ⟨σ3, H3, I4, qn⟩
  · refine wpAny_passesOwn hp (thn (T.item X rfl rfl rfl hc i pins s3 σ3 H3 X.xe I3 (stat fr3) st3 go) fun r s4 ⟨u, hr, h4⟩ => ?_)
    subst hr
    refine wpAny_passesOwn hp (thn h4 fun _ s5 ⟨x, H5, I5, r5, y5, st5, fr5⟩ => ?_)
    have I5' := I5.pinned (stat fr5) (T.obj _ _ st5)
    refine wpAny_passesOwn hp (thn (hg _ s5 σ3 H5 x u _ I5' r5 (step x H5 y5)) fun _ s6 ⟨σ6, H6, I6, q6⟩ => ?_)
    refine wpAny_passesOwn hp (thn (hb _ s6 σ6 H6 _ I6 q6) fun f s7 q7 => ?_)
    have again : ∀ {σ7 : St} {H7 : Hp}, Inv X (pins ++ pinsAt fp s5.heap) σ7 H7 s7 → N σ7 H7 → ∃ m, m < n ∧ ∃ i σ' H', Inv X pins σ' H' s7 ∧ tn i s7.heap ∧ (∀ b ∈ fp, H' b = none) ∧ W i m σ' H' := fun {σ7 H7} I7 n7 => by
      obtain ⟨m', hm, w7⟩ := hN σ7 H7 n7
      refine ⟨m', hm, i + 1, σ7, H7, I7.unpinned, T.keep _ _ _ st5 fun b hb o e => (I7.pin (b, o) (List.mem_append_right _ (List.mem_append_right _ (mem_pinsAt hb e)))).1, fun b hb => ?_, w7⟩
      obtain ⟨o, e, d⟩ := T.obj _ _ st5 b hb
      exact (I7.pin (b, o) (List.mem_append_right _ (List.mem_append_right _ (mem_pinsAt hb e)))).2.1
    cases f with
    | next => obtain ⟨σ7, H7, I7, n7⟩ := q7; exact again I7 n7
    | cont => obtain ⟨σ7, H7, I7, n7⟩ := q7; exact again I7 n7
    | brk => obtain ⟨σ7, H7, I7, q7⟩ := q7; exact ⟨σ7, H7, I7.unpinned, q7⟩
    | ret v => obtain ⟨x7, σ7, H7, I7, r7, q7⟩ := q7; exact ⟨x7, σ7, H7, I7.unpinned, r7, q7⟩
end

theorem for_list {K : PySem.W.Frag} {a : Addr} {xs : List V} {g : TG} {tb : TS} {D : Ends} {σ : St} {H : Hp} (Pv : Nat → St → Hp → Prop) (h0 : Pv 0 σ H) (hl : ∀ i σ H, i ≤ xs.length → Pv i σ H → SqL K H a xs)
    (hs : ∀ i x σ H, xs[i]? = some x → Pv i σ H → g x σ H fun σ2 H2 => tb { D with nx := Pv (i + 1), ct := Pv (i + 1), bk := D.nx } σ2 H2) (hd : ∀ σ H, Pv xs.length σ H → D.nx σ H) :
    ∃ W : Nat → Nat → St → Hp → Prop, (∃ m, W 0 m σ H) ∧ ∀ i m σ H, W i m σ H →
      ((Itl K a).stop i H ∧ D.nx σ H) ∨ ((Itl K a).go i H ∧ ∃ N : St → Hp → Prop, (∀ σ' H', N σ' H' → ∃ m', m' < m ∧ W (i + 1) m' σ' H') ∧ ∀ x H', (Itl K a).yld i H x H' → g x σ H' fun σ2 H2 => tb { D with nx := N, ct := N, bk := D.nx } σ2 H2) := by
  refine ⟨fun i m σ H => m = xs.length - i ∧ i ≤ xs.length ∧ Pv i σ H, ⟨xs.length, by simp, Nat.zero_le _, h0⟩, ?_⟩
  rintro i m σ H ⟨rfl, hi, p⟩
  have q := hl i σ H hi p
  by_cases hlt : i < xs.length
  · refine .inr ⟨⟨xs, xs[i], q, by simp [hlt]⟩, Pv (i + 1), fun σ' H' p' => ⟨xs.length - (i + 1), by omega, rfl, hlt, p'⟩, fun x H' y => ?_⟩
    obtain ⟨e, y⟩ := y
    subst e
    exact hs i x σ _ (y xs q) p
  · have e : i = xs.length := by omega
    subst e
    exact .inl ⟨⟨xs, q, Nat.le_refl _⟩, hd σ H p⟩
theorem for_range {lo : Int} {n : Nat} {g : TG} {tb : TS} {D : Ends} {σ : St} {H : Hp} (Pv : Nat → St → Hp → Prop) (h0 : Pv 0 σ H)
    (hs : ∀ i σ H, i < n → Pv i σ H → g (.int (lo + i)) σ H fun σ2 H2 => tb { D with nx := Pv (i + 1), ct := Pv (i + 1), bk := D.nx } σ2 H2) (hd : ∀ σ H, Pv n σ H → D.nx σ H) :
    ∃ W : Nat → Nat → St → Hp → Prop, (∃ m, W 0 m σ H) ∧ ∀ i m σ H, W i m σ H →
      ((Itr lo n).stop i H ∧ D.nx σ H) ∨ ((Itr lo n).go i H ∧ ∃ N : St → Hp → Prop, (∀ σ' H', N σ' H' → ∃ m', m' < m ∧ W (i + 1) m' σ' H') ∧ ∀ x H', (Itr lo n).yld i H x H' → g x σ H' fun σ2 H2 => tb { D with nx := N, ct := N, bk := D.nx } σ2 H2) := by
  refine ⟨fun i m σ H => m = n - i ∧ i ≤ n ∧ Pv i σ H, ⟨n, by simp, Nat.zero_le _, h0⟩, ?_⟩
  rintro i m σ H ⟨rfl, hi, p⟩
  by_cases hlt : i < n
  · refine .inr ⟨hlt, Pv (i + 1), fun σ' H' p' => ⟨n - (i + 1), by omega, rfl, hlt, p'⟩, fun x H' y => ?_⟩
    obtain ⟨e, y⟩ := y
    subst e y
    exact hs i σ _ hlt p
  · have e : i = n := by omega
    subst e
    exact .inl ⟨Nat.le_refl _, hd σ H p⟩
theorem while_by {c : TT} {tb : TS} {D : Ends} {σ : St} {H : Hp} (Pv : St → Hp → Prop) (μ : St → Hp → Nat) (h0 : Pv σ H)
    (hs : ∀ σ H, Pv σ H → c σ H fun b H1 => if b = true then tb { D with nx := fun σ' H' => Pv σ' H' ∧ μ σ' H' < μ σ H, ct := fun σ' H' => Pv σ' H' ∧ μ σ' H' < μ σ H, bk := D.nx } σ H1 else D.nx σ H1)
    (mono : ∀ σ H Q Q', (∀ b H1, Q b H1 → Q' b H1) → c σ H Q → c σ H Q') : tWhile c tb D σ H := by
  refine ⟨fun m σ H => m = μ σ H ∧ Pv σ H, ⟨_, rfl, h0⟩, ?_⟩
  rintro m σ H ⟨rfl, p⟩
  refine mono σ H _ _ (fun b H1 q => ?_) (hs σ H p)
  cases b with
  | true => exact ⟨_, fun σ' H' ⟨p', l⟩ => ⟨_, l, rfl, p'⟩, q⟩
  | false => exact q
end L2

namespace L2
open PySem PySem.Spec PyProof.Rows

abbrev R2 := V → V → Hp → VK → Prop
def OpR (X : Cx) (f : Value → Value → Sem Value) (r : R2) : Prop :=
  ∀ (pins : List (Addr × Obj)) (s : Shared) (σ : St) (H : Hp) (x y : V) (v u : Value) (Q : VK), Inv X pins σ H s → RelV x v → RelV y u → r x y H Q →
    wpAny (model X.prog X.w) X.A (f v u) (EP X pins σ Q) X.xe s
def UnR (X : Cx) (f : Value → Sem Value) (r : V → Hp → VK → Prop) : Prop :=
  ∀ (pins : List (Addr × Obj)) (s : Shared) (σ : St) (H : Hp) (x : V) (v : Value) (Q : VK), Inv X pins σ H s → RelV x v → r x H Q →
    wpAny (model X.prog X.w) X.A (f v) (EP X pins σ Q) X.xe s
def CallR (X : Cx) (f : Value) (r : List V → Hp → VK → Prop) : Prop :=
  ∀ (pins : List (Addr × Obj)) (s : Shared) (σ : St) (H : Hp) (xs : List V) (us : List Value) (Q : VK), Inv X pins σ H s → Vals xs us → r xs H Q →
    wpAny (model X.prog X.w) X.A (call f us) (EP X pins σ Q) X.xe s
def TruR (X : Cx) (r : V → Hp → (Bool → Hp → Prop) → Prop) : Prop :=
  ∀ (pins : List (Addr × Obj)) (s : Shared) (σ : St) (H : Hp) (x : V) (v : Value) (Q : Bool → Hp → Prop), Inv X pins σ H s → RelV x v → r x H Q →
    wpAny (model X.prog X.w) X.A (truthy v) (TP X pins σ Q) X.xe s

def tOp (r : R2) (ta tb : TE) : TE := fun σ H Q => ta σ H fun x H1 => tb σ H1 fun y H2 => r x y H2 Q
def tUn (r : V → Hp → VK → Prop) (ta : TE) : TE := fun σ H Q => ta σ H fun x H1 => r x H1 Q
def rI (C : Int → Int → Prop) (g : Int → Int → V) : R2 := fun x y H Q => ∃ i j, x = .int i ∧ y = .int j ∧ C i j ∧ Q (g i j) H
def rI0 (g : Int → Int → V) : R2 := fun x y H Q => ∃ i j, x = .int i ∧ y = .int j ∧ Q (g i j) H
def rU (g : Int → V) : V → Hp → VK → Prop := fun x H Q => ∃ i, x = .int i ∧ Q (g i) H

section
variable {X : Cx} {a b c : Expr} {ta tb tc : TE} {pos : Pos}

theorem binT (ha : PE X a ta) (hb : PE X b tb) {pins : List (Addr × Obj)} {s : Shared} {σ : St} {H : Hp} {R : V → V → Hp → Prop} (I : Inv X pins σ H s)
    (h : ta σ H fun x H1 => tb σ H1 fun y H2 => R x y H2) {Q : Value → Shared → Prop} {f : Value → Value → Sem Value}
    (hf : ∀ v u s2 x y H2, Inv X pins σ H2 s2 → RelV x v → RelV y u → R x y H2 → wpAny (model X.prog X.w) X.A (f v u) Q X.xe s2) :
    wpAny (model X.prog X.w) X.A (eval a X.env) (fun v s₁ => wpAny (model X.prog X.w) X.A (eval b X.env) (fun u s₂ => wpAny (model X.prog X.w) X.A (f v u) Q X.xe s₂) X.xe s₁) X.xe s := by
  refine thn (ha pins s σ H _ I h) fun v s1 ⟨x, H1, I1, r1, q1⟩ => ?_
  refine thn (hb pins s1 σ H1 _ I1 q1) fun u s2 ⟨y, H2, I2, r2, q2⟩ => ?_
  exact hf v u s2 x y H2 I2 r1 r2 q2

theorem pe_op {op : Operator} {r : R2} (ho : OpR X (binaryOp op) r) (ha : PE X a ta) (hb : PE X b tb) : PE X (.BinOp a op b pos) (tOp r ta tb) := by
  intro pins s σ H Q I h
  exact wpAny_BinOp (binT ha hb I h fun v u s2 x y H2 I2 rx ry q => ho pins s2 σ H2 x y v u Q I2 rx ry q)
theorem pe_un {op : UnaryOp} {r : V → Hp → VK → Prop} (ho : UnR X (unaryOp op) r) (ha : PE X a ta) : PE X (.UnaryOp op a pos) (tUn r ta) := by
  intro pins s σ H Q I h
  exact UnaryOp_ (thn (ha pins s σ H _ I h) fun v s1 ⟨x, H1, I1, r1, q1⟩ => ho pins s1 σ H1 x v Q I1 r1 q1)
theorem opI {f : Value → Value → Sem Value} {C : Int → Int → Prop} {g : Int → Int → Int}
    (rule : ∀ (i j : Int) (t u : Tok) (s : Shared) (Q : Value → Shared → Prop) (E : Value → Shared → Prop), C i j → Q (.int (g i j) s.toks) { s with toks := s.toks + 1 } → wpAny (model X.prog X.w) X.A (f (.int i t) (.int j u)) Q E s) :
    OpR X f (rI C fun i j => .int (g i j)) := by
  intro pins s σ H x y v u Q I rx ry h
  obtain ⟨i, j, rfl, rfl, hc, q⟩ := h
  obtain ⟨t, rfl⟩ := rx
  obtain ⟨t', rfl⟩ := ry
  exact rule i j t t' s _ _ hc ⟨.int (g i j), H, I.tok _, ⟨_, rfl⟩, q⟩
theorem opI0 {f : Value → Value → Sem Value} {g : Int → Int → Int}
    (rule : ∀ (i j : Int) (t u : Tok) (s : Shared) (Q : Value → Shared → Prop) (E : Value → Shared → Prop), Q (.int (g i j) s.toks) { s with toks := s.toks + 1 } → wpAny (model X.prog X.w) X.A (f (.int i t) (.int j u)) Q E s) :
    OpR X f (rI0 fun i j => .int (g i j)) := by
  intro pins s σ H x y v u Q I rx ry h
  obtain ⟨i, j, rfl, rfl, q⟩ := h
  obtain ⟨t, rfl⟩ := rx
  obtain ⟨t', rfl⟩ := ry
  exact rule i j t t' s _ _ ⟨.int (g i j), H, I.tok _, ⟨_, rfl⟩, q⟩
theorem opB0 {f : Value → Value → Sem Value} {g : Int → Int → Bool}
    (rule : ∀ (i j : Int) (t u : Tok) (s : Shared) (Q : Value → Shared → Prop) (E : Value → Shared → Prop), Q (.bool (g i j)) s → wpAny (model X.prog X.w) X.A (f (.int i t) (.int j u)) Q E s) :
    OpR X f (rI0 fun i j => .bl (g i j)) := by
  intro pins s σ H x y v u Q I rx ry h
  obtain ⟨i, j, rfl, rfl, q⟩ := h
  obtain ⟨t, rfl⟩ := rx
  obtain ⟨t', rfl⟩ := ry
  exact rule i j t t' s _ _ ⟨.bl (g i j), H, I, rfl, q⟩

def CDiv (i j : Int) : Prop := 0 < j ∧ j < 1073741824
def CPow (i j : Int) : Prop := 0 ≤ j ∧ j ≤ 1000000 ∧ i.natAbs < 2 ^ 64
def CMul (i j : Int) : Prop := (-(2 ^ 64) < i ∧ i < 2 ^ 64) ∨ (-(2 ^ 64) < j ∧ j < 2 ^ 64)
theorem CMul.ok {i j : Int} (h : CMul i j) : IntMulOk i j := by
  rcases h with ⟨h1, h2⟩ | ⟨h1, h2⟩
  · exact .of_left (intBits_le_64 h1 h2)
  · exact .of_right (intBits_le_64 h1 h2)
theorem op_add : OpR X (binaryOp .Add) (rI0 fun i j => .int (i + j)) := opI0 fun _ _ _ _ _ _ _ q => add_int q
theorem op_sub : OpR X (binaryOp .Sub) (rI0 fun i j => .int (i - j)) := opI0 fun _ _ _ _ _ _ _ q => sub_int q
theorem op_mul : OpR X (binaryOp .Mult) (rI CMul fun i j => .int (i * j)) := opI fun _ _ _ _ _ _ _ hc q => mul_int q hc.ok
theorem op_fdiv : OpR X (binaryOp .FloorDiv) (rI CDiv fun i j => .int (i / j)) := opI fun i j _ _ _ _ _ hc q => by
  have h1 : (0 : Int) < j := hc.1
  have h2 : j < 1073741824 := hc.2
  exact floordiv_int (by omega) (by rw [Int.fdiv_eq_ediv_of_nonneg i (by omega)]; exact q) (.inl (PyProof.noPylong_small (by omega)))
theorem op_mod : OpR X (binaryOp .Mod) (rI (fun _ j => 0 < j) fun i j => .int (i % j)) := opI fun i j _ _ _ _ _ hc q => by
  have h1 : (0 : Int) < j := hc
  exact mod_int' (by omega) (by rw [Int.fmod_eq_emod_of_nonneg i (by omega)]; exact q)
theorem op_pow : OpR X (binaryOp .Pow) (rI CPow fun i j => .int (i ^ j.toNat)) := opI fun _ _ _ _ _ _ _ hc q => pow_int_small hc.1 hc.2.1 hc.2.2 q
theorem unI {f : Value → Sem Value} {g : Int → Int}
    (rule : ∀ (i : Int) (t : Tok) (s : Shared) (Q : Value → Shared → Prop) (E : Value → Shared → Prop), Q (.int (g i) s.toks) { s with toks := s.toks + 1 } → wpAny (model X.prog X.w) X.A (f (.int i t)) Q E s) :
    UnR X f (rU fun i => .int (g i)) := by
  intro pins s σ H x v Q I rx h
  obtain ⟨i, rfl, q⟩ := h
  obtain ⟨t, rfl⟩ := rx
  exact rule i t s _ _ ⟨.int (g i), H, I.tok _, ⟨_, rfl⟩, q⟩
theorem un_neg : UnR X (unaryOp .USub) (rU fun i => .int (-i)) := unI fun _ _ _ _ _ q => neg_int q
end

def scal : V → V → Bool
  | .non, .non => true | .non, .int _ => true | .int _, .non => true | .non, .bl _ => true | .bl _, .non => true | .non, .str _ => true | .str _, .non => true
  | .int _, .int _ => true | .bl _, .bl _ => true | .str _, .str _ => true | .byt _, .byt _ => true
  | .int _, .str _ => true | .str _, .int _ => true | .bl _, .str _ => true | .str _, .bl _ => true
  | _, _ => false
def rEq : R2 := fun x y H Q => scal x y = true ∧ Q (.bl (decide (x = y))) H
def rNe : R2 := fun x y H Q => scal x y = true ∧ Q (.bl (!decide (x = y))) H

theorem dec_int {i j : Int} : decide (V.int i = V.int j) = (i == j) := by
  rw [Bool.eq_iff_iff]
  simp
theorem dec_bl {i j : Bool} : decide (V.bl i = V.bl j) = (i == j) := by
  rw [Bool.eq_iff_iff]
  simp
theorem dec_str {i j : Str} : decide (V.str i = V.str j) = (i == j) := by
  rw [Bool.eq_iff_iff]
  simp
theorem dec_byt {i j : Array UInt8} : decide (V.byt i = V.byt j) = (i.toList == j.toList) := by
  rw [Bool.eq_iff_iff]
  cases i
  cases j
  simp

section
variable {X : Cx} {a b c : Expr} {ta tb tc : TE} {pos : Pos}
theorem fin_bl {pins : List (Addr × Obj)} {σ : St} {H : Hp} {s : Shared} {Q : VK} {k k' : Bool} (I : Inv X pins σ H s) (q : Q (.bl k) H) (e : k = k') : EP X pins σ Q (.bool k') s := by
  subst e
  exact ⟨.bl k, H, I, rfl, q⟩
theorem op_eq : OpR X (compareOp .Eq) rEq := by
  intro pins s σ H x y v u Q I rx ry h
  obtain ⟨hs, q⟩ := h
  cases x with
  | non =>
    cases rx
    cases y with
    | non => cases ry; exact PySem.EqNone.eq_none_none (fin_bl I q (by simp))
    | bl j => cases ry; exact PySem.EqNone.eq_none_bool (fin_bl I q (by simp))
    | int j => obtain ⟨t', rfl⟩ := ry; exact PySem.EqNone.eq_none_int (fin_bl I q (by simp))
    | str j => obtain ⟨t', rfl⟩ := ry; exact PySem.EqNone.eq_none_str (fin_bl I q (by simp))
    | _ => exact absurd (show false = true from hs) Bool.false_ne_true
  | bl i =>
    cases rx
    cases y with
    | non => cases ry; exact PySem.EqNone.eq_bool_none (fin_bl I q (by simp))
    | bl j => cases ry; exact eq_bool (fin_bl I q dec_bl)
    | str j => obtain ⟨t', rfl⟩ := ry; exact PySem.EqMixed.eq_bool_str (fin_bl I q (by simp))
    | _ => exact absurd (show false = true from hs) Bool.false_ne_true
  | int i =>
    obtain ⟨t, rfl⟩ := rx
    cases y with
    | non => cases ry; exact PySem.EqNone.eq_int_none (fin_bl I q (by simp))
    | int j => obtain ⟨t', rfl⟩ := ry; exact eq_int (fin_bl I q dec_int)
    | str j => obtain ⟨t', rfl⟩ := ry; exact PySem.EqMixed.eq_int_str (fin_bl I q (by simp))
    | _ => exact absurd (show false = true from hs) Bool.false_ne_true
  | str i =>
    obtain ⟨t, rfl⟩ := rx
    cases y with
    | non => cases ry; exact PySem.EqNone.eq_str_none (fin_bl I q (by simp))
    | bl j => cases ry; exact PySem.EqMixed.eq_str_bool (fin_bl I q (by simp))
    | int j => obtain ⟨t', rfl⟩ := ry; exact PySem.EqMixed.eq_str_int (fin_bl I q (by simp))
    | str j => obtain ⟨t', rfl⟩ := ry; exact eq_str (fin_bl I q dec_str)
    | _ => exact absurd (show false = true from hs) Bool.false_ne_true
  | byt i =>
    obtain ⟨t, rfl⟩ := rx
    cases y with
    | byt j => obtain ⟨t', rfl⟩ := ry; exact PySem.W.eq_bytes (fin_bl I q dec_byt)
    | _ => exact absurd (show false = true from hs) Bool.false_ne_true
  | _ => cases y <;> exact absurd (show false = true from hs) Bool.false_ne_true
theorem op_ne : OpR X (compareOp .NotEq) rNe := by
  intro pins s σ H x y v u Q I rx ry h
  obtain ⟨hs, q⟩ := h
  cases x with
  | non =>
    cases rx
    cases y with
    | non => cases ry; exact PySem.EqNone.ne_none_none (fin_bl I q (by simp))
    | bl j => cases ry; exact PySem.EqNone.ne_none_bool (fin_bl I q (by simp))
    | int j => obtain ⟨t', rfl⟩ := ry; exact PySem.EqNone.ne_none_int (fin_bl I q (by simp))
    | str j => obtain ⟨t', rfl⟩ := ry; exact PySem.EqNone.ne_none_str (fin_bl I q (by simp))
    | _ => exact absurd (show false = true from hs) Bool.false_ne_true
  | bl i =>
    cases rx
    cases y with
    | non => cases ry; exact PySem.EqNone.ne_bool_none (fin_bl I q (by simp))
    | bl j => cases ry; exact ne_bool (fin_bl I q (congrArg not dec_bl))
    | str j => obtain ⟨t', rfl⟩ := ry; exact PySem.EqMixed.ne_bool_str (fin_bl I q (by simp))
    | _ => exact absurd (show false = true from hs) Bool.false_ne_true
  | int i =>
    obtain ⟨t, rfl⟩ := rx
    cases y with
    | non => cases ry; exact PySem.EqNone.ne_int_none (fin_bl I q (by simp))
    | int j => obtain ⟨t', rfl⟩ := ry; exact ne_int (fin_bl I q (congrArg not dec_int))
    | str j => obtain ⟨t', rfl⟩ := ry; exact PySem.EqMixed.ne_int_str (fin_bl I q (by simp))
    | _ => exact absurd (show false = true from hs) Bool.false_ne_true
  | str i =>
    obtain ⟨t, rfl⟩ := rx
    cases y with
    | non => cases ry; exact PySem.EqNone.ne_str_none (fin_bl I q (by simp))
    | bl j => cases ry; exact PySem.EqMixed.ne_str_bool (fin_bl I q (by simp))
    | int j => obtain ⟨t', rfl⟩ := ry; exact PySem.EqMixed.ne_str_int (fin_bl I q (by simp))
    | str j => obtain ⟨t', rfl⟩ := ry; exact ne_str (fin_bl I q (congrArg not dec_str))
    | _ => exact absurd (show false = true from hs) Bool.false_ne_true
  | byt i =>
    obtain ⟨t, rfl⟩ := rx
    cases y with
    | byt j => obtain ⟨t', rfl⟩ := ry; exact PySem.W.ne_bytes (fin_bl I q (congrArg not dec_byt))
    | _ => exact absurd (show false = true from hs) Bool.false_ne_true
  | _ => cases y <;> exact absurd (show false = true from hs) Bool.false_ne_true

theorem op_lt : OpR X (compareOp .Lt) (rI0 fun i j => .bl (decide (i < j))) := opB0 fun _ _ _ _ _ _ _ q => lt_int q
theorem op_le : OpR X (compareOp .LtE) (rI0 fun i j => .bl (decide (i ≤ j))) := opB0 fun _ _ _ _ _ _ _ q => le_int q
theorem op_gt : OpR X (compareOp .Gt) (rI0 fun i j => .bl (decide (j < i))) := opB0 fun _ _ _ _ _ _ _ q => gt_int q
theorem op_isN : OpR X (compareOp .Is) (fun x y H Q => y = .non ∧ Q (.bl (decide (x = .non))) H) := by
  intro pins s σ H x y v u Q I rx ry h
  obtain ⟨rfl, q⟩ := h
  cases ry
  refine is_none_gen (fin_bl I q ?_)
  cases x <;> first
    | (cases rx; rfl)
    | (obtain ⟨t, rfl⟩ := rx; rfl)
theorem op_notN : OpR X (compareOp .IsNot) (fun x y H Q => y = .non ∧ Q (.bl (!decide (x = .non))) H) := by
  intro pins s σ H x y v u Q I rx ry h
  obtain ⟨rfl, q⟩ := h
  cases ry
  refine isnot_none_gen (fin_bl I q ?_)
  cases x <;> first
    | (cases rx; rfl)
    | (obtain ⟨t, rfl⟩ := rx; rfl)

theorem OpR.or {f : Value → Value → Sem Value} {r r' : R2} (h : OpR X f r) (h' : OpR X f r') : OpR X f (fun x y H Q => r x y H Q ∨ r' x y H Q) := by
  intro pins s σ H x y v u Q I rx ry q
  rcases q with q | q
  · exact h pins s σ H x y v u Q I rx ry q
  · exact h' pins s σ H x y v u Q I rx ry q

theorem nomark (b : Expr) {op : CmpOp} (h : op ≠ .In := by decide) (h2 : op ≠ .NotIn := by decide) : behindInMarks op b = false := by
  have e1 : (op == CmpOp.In) = false := by cases op <;> first | rfl | exact absurd rfl h
  have e2 : (op == CmpOp.NotIn) = false := by cases op <;> first | rfl | exact absurd rfl h2
  cases b <;> simp [behindInMarks, e1, e2]
theorem pe_cmpR {op : CmpOp} {r : R2} (ho : OpR X (compareOp op) r) (ha : PE X a ta) (hb : PE X b tb) (hm : behindInMarks op b = false) : PE X (.Compare a [op] [b] pos) (tOp r ta tb) := by
  intro pins s σ H Q I h
  exact wpAny_Compare1 (binT ha hb I h fun v u s2 x y H2 I2 rx ry q => ho pins s2 σ H2 x y v u Q I2 rx ry q) hm
def tTest (t : TE) : TT := fun σ H Q => t σ H fun x H' => ∃ k, x = .bl k ∧ Q k H'
theorem pt_cmpR {op : CmpOp} {r : R2} (ho : OpR X (compareOp op) r) (ha : PE X a ta) (hb : PE X b tb) (hm : behindInMarks op b = false) : PT X (.Compare a [op] [b] pos) (tTest (tOp r ta tb)) := by
  intro pins s σ H Q I h
  refine wpAny_isTrue_Compare1 (thn (ha pins s σ H _ I h) fun v s1 ⟨x, H1, I1, r1, q1⟩ => thn (hb pins s1 σ H1 _ I1 q1) fun u s2 ⟨y, H2, I2, r2, q2⟩ =>
    thn (ho pins s2 σ H2 x y v u _ I2 r1 r2 q2) fun c s3 ⟨z, H3, I3, r3, k, e, q3⟩ => ?_) hm
  subst e
  cases r3
  exact wpAny_truthy_bool ⟨H3, I3, q3⟩
def tChain (r r' : R2) (ta tb tc : TE) : TE := fun σ H Q => ta σ H fun x H1 => tb σ H1 fun y H2 => r x y H2 fun z H3 => ∃ k, z = .bl k ∧
  (if k = true then tc σ H3 fun w' H4 => r' y w' H4 Q else Q (.bl false) H3)
theorem pe_chain {op op' : CmpOp} {r r' : R2} (ho : OpR X (compareOp op) r) (ho' : OpR X (compareOp op') r') (ha : PE X a ta) (hb : PE X b tb) (hc : PE X c tc)
    (hm : lastMarks [op, op'] [b, c] = false := by with_unfolding_all rfl) : PE X (.Compare a [op, op'] [b, c] pos) (tChain r r' ta tb tc) := by
  intro pins s σ H Q I h
  refine Compare_chain (thn (ha pins s σ H _ I h) fun v s1 ⟨x, H1, I1, r1, q1⟩ => chain_link (thn (hb pins s1 σ H1 _ I1 q1) fun u s2 ⟨y, H2, I2, r2, q2⟩ =>
    thn (ho pins s2 σ H2 x y v u _ I2 r1 r2 q2) fun d s3 ⟨z, H3, I3, r3, k, e, q3⟩ => ?_)) hm
  subst e
  cases r3
  refine wpAny_truthy_bool ?_
  cases k with
  | false => exact ite_ff ⟨.bl false, H3, I3, rfl, q3⟩
  | true => exact ite_tt (chain_last (thn (hc pins s3 σ H3 _ I3 q3) fun w' s4 ⟨z', H4, I4, r4, q4⟩ => ho' pins s4 σ H4 y z' u w' Q I4 r2 r4 q4))
theorem pt_chain {op op' : CmpOp} {r r' : R2} (ho : OpR X (compareOp op) r) (ho' : OpR X (compareOp op') r') (ha : PE X a ta) (hb : PE X b tb) (hc : PE X c tc)
    (hm : lastMarks [op, op'] [b, c] = false := by with_unfolding_all rfl) : PT X (.Compare a [op, op'] [b, c] pos) (tTest (tChain r r' ta tb tc)) := by
  intro pins s σ H Q I h
  refine isTrue_chain (thn (ha pins s σ H _ I h) fun v s1 ⟨x, H1, I1, r1, q1⟩ => test_link (thn (hb pins s1 σ H1 _ I1 q1) fun u s2 ⟨y, H2, I2, r2, q2⟩ =>
    thn (ho pins s2 σ H2 x y v u _ I2 r1 r2 q2) fun d s3 ⟨z, H3, I3, r3, k, e, q3⟩ => ?_)) hm
  subst e
  cases r3
  refine wpAny_truthy_bool ?_
  cases k with
  | false =>
    obtain ⟨k', e', q'⟩ := q3
    cases e'
    exact ite_ff ⟨H3, I3, q'⟩
  | true =>
    refine ite_tt (test_last (thn (hc pins s3 σ H3 _ I3 q3) fun w' s4 ⟨z', H4, I4, r4, q4⟩ => thn (ho' pins s4 σ H4 y z' u w' _ I4 r2 r4 q4) fun d' s5 ⟨z2, H5, I5, r5, k2, e2, q5⟩ => ?_))
    subst e2
    cases r5
    exact wpAny_truthy_bool ⟨H5, I5, q5⟩

def TruV (K : PySem.W.Frag) (x : V) (H : Hp) (k : Bool) : Prop :=
  match x with
  | .non => k = false
  | .bl b => k = b
  | .int i => k = (i != 0)
  | .str y => y.length ≤ sizeLine ∧ k = ((y.length : Int) != 0)
  | .byt y => y.size ≤ sizeLine ∧ k = ((y.size : Int) != 0)
  | .ref p => (∃ xs, SqL K H p xs ∧ k = !xs.isEmpty) ∨ (∃ xs, SqT K H p xs ∧ k = !xs.isEmpty) ∨ ∃ kvs, H p = some (.dK kvs) ∧ k = !kvs.isEmpty
  | _ => False
theorem isEmpty_kv {κ : Type} {kvs : List (κ × V)} {vs : List (κ × Value)} (r : KV kvs vs) : (!vs.isEmpty) = !kvs.isEmpty := by
  cases r <;> rfl
theorem isEmpty_of {xs : List V} {its : List Value} (r : Vals xs its) : (!its.toArray.isEmpty) = !xs.isEmpty := by
  cases r <;> simp
theorem line63 : (sizeLine : Nat) < 2 ^ 63 := by rw [sizeLine_eq]; decide
theorem tru_ok : TruR X (fun x H Q => ∃ k, TruV X.K x H k ∧ Q k H) := by
  intro pins s σ H x v Q I rx h
  obtain ⟨k, e, q⟩ := h
  have hl := line63
  have hs : sizeLine = 16777216 := sizeLine_eq
  cases x with
  | non =>
    cases rx
    have e' : k = false := e
    subst e'
    exact truthy_none ⟨H, I, q⟩
  | bl b =>
    cases rx
    have e' : k = b := e
    subst e'
    exact wpAny_truthy_bool ⟨H, I, q⟩
  | int i =>
    obtain ⟨t, rfl⟩ := rx
    have e' : k = (i != 0) := e
    subst e'
    exact PySem.P.truthy_int ⟨H, I, q⟩
  | str y =>
    obtain ⟨t, rfl⟩ := rx
    obtain ⟨hy, e'⟩ : y.length ≤ sizeLine ∧ k = ((y.length : Int) != 0) := e
    subst e'
    exact PySem.P.truthy_str (by omega) ⟨H, I.tok _, q⟩
  | byt y =>
    obtain ⟨t, rfl⟩ := rx
    obtain ⟨hy, e'⟩ : y.size ≤ sizeLine ∧ k = ((y.size : Int) != 0) := e
    subst e'
    exact PySem.W.truthy_bytes (by omega) ⟨H, I.tok _, q⟩
  | ref p =>
    cases rx
    have e' : (∃ xs, SqL X.K H p xs ∧ k = !xs.isEmpty) ∨ (∃ xs, SqT X.K H p xs ∧ k = !xs.isEmpty) ∨ ∃ kvs, H p = some (.dK kvs) ∧ k = !kvs.isEmpty := e
    rcases e' with ⟨xs, hx, e'⟩ | ⟨xs, hx, e'⟩ | ⟨kvs, hx, e'⟩
    · subst e'
      obtain ⟨its, r, pl, hz⟩ := I.list hx
      have hlen := r.length
      exact wpAny_truthy_list pl.isList (by simp only [List.size_toArray]; omega) ⟨H, I.tok _, by rw [isEmpty_of r]; exact q⟩
    · subst e'
      obtain ⟨its, r, pl, hz⟩ := I.tuple hx
      have hlen := r.length
      exact truthy_tuple pl (by simp only [List.size_toArray]; omega) ⟨H, I.tok _, by rw [isEmpty_of r]; exact q⟩
    · subst e'
      obtain ⟨hz, hS, vs, r, m⟩ : kvs.length ≤ sizeLine ∧ (p == sysModules) = false ∧ ∃ vs, KV kvs vs ∧ s.heap.DictOf (mixKind X.prog X.w) p vs := I.hok p _ hx
      have hlen : kvs.length = vs.length := Paired.length r
      exact wpAny_truthy_dict hS m (by omega) ⟨H, I.tok _, by rw [isEmpty_kv r]; exact q⟩
  | _ => exact (show False from e).elim
theorem pt_truth (ha : PE X a ta) (he : ∀ whole, isTrue a X.env whole = (do let v ← whole; standAt a.pos; holding [v] (truthy v))) :
    PT X a (fun σ H Q => ta σ H fun x H' => ∃ k, TruV X.K x H' k ∧ Q k H') := by
  intro pins s σ H Q I h
  exact isTrue_plain (thn (ha pins s σ H _ I h) fun v s1 ⟨x, H1, I1, r1, q1⟩ => tru_ok pins s1 σ H1 x v Q I1 r1 q1) (he _)

theorem vals1 {x : V} {us : List Value} (r : Vals [x] us) : ∃ u, us = [u] ∧ RelV x u := by
  cases r with
  | cons r1 r2 => cases r2; exact ⟨_, rfl, r1⟩
theorem vals2 {x y : V} {us : List Value} (r : Vals [x, y] us) : ∃ u w', us = [u, w'] ∧ RelV x u ∧ RelV y w' := by
  cases r with
  | cons r1 r2 =>
    cases r2 with
    | cons r3 r4 => cases r4; exact ⟨_, _, rfl, r1, r3⟩
theorem call_abs : CallR X (.builtin "abs") (fun xs H Q => ∃ i, xs = [.int i] ∧ Q (.int (if i < 0 then -i else i)) H) := by
  intro pins s σ H xs us Q I r h
  obtain ⟨i, rfl, q⟩ := h
  obtain ⟨u, rfl, t, rfl⟩ := vals1 r
  exact call_abs_int fun u tk => ⟨.int (if i < 0 then -i else i), H, I.tok _, ⟨_, rfl⟩, q⟩
theorem call_int1 : CallR X (.type "int") (fun xs H Q => (∃ i, xs = [.int i] ∧ Q (.int i) H) ∨ ∃ k, xs = [.bl k] ∧ Q (.int (if k then 1 else 0)) H) := by
  intro pins s σ H xs us Q I r h
  rcases h with ⟨i, rfl, q⟩ | ⟨k, rfl, q⟩
  · obtain ⟨u, rfl, t, rfl⟩ := vals1 r
    exact call_int_int ⟨.int i, H, I, ⟨_, rfl⟩, q⟩
  · obtain ⟨u, rfl, r1⟩ := vals1 r
    cases r1
    exact call_int_bool ⟨.int (if k then 1 else 0), H, I.tok _, ⟨_, rfl⟩, q⟩
end
end L2

namespace L2
open PySem PySem.Spec PyProof.Rows

structure ObjM (h : Heap) (x dx C : Addr) (mA : Str → Option Value) : Prop where
  obj : h.get? x = some (PySem.W.instObj C dx)
  ns : h.Ns1 dx mA
  ne : dx ≠ x

theorem lookIn_ns {h : Heap} {dx : Addr} {mA : Str → Option Value} (n : h.Ns1 dx mA) : ∃ od, h.get? dx = some od ∧ ∀ name, PySem.W.lookIn name od = some (mA name) := by
  obtain ⟨o, es, ep, ho, hd, hk, _, hm⟩ := n
  refine ⟨o, ho, fun name => ?_⟩
  have e := hm name
  unfold nsFind findBy at e
  rw [← Array.find?_toList] at e
  unfold PySem.W.lookIn
  rw [hd]
  dsimp only
  split
  · rename_i y q
    rw [q] at e
    exact congrArg some e
  · rename_i q
    rw [q] at e
    have a : es.toList.any (·.refKey) = false := by
      rw [List.any_eq_false]
      intro y hy
      obtain ⟨z, t, hkey⟩ := hk y (Array.mem_toList_iff.mp hy)
      simp [DictEntry.refKey, hkey]
    have a' : ¬ es.toList.any (·.refKey) = true := by rw [a]; exact Bool.false_ne_true
    rw [if_neg a']
    exact congrArg some e

theorem ObjM.look {h : Heap} {x dx C : Addr} {mA : Str → Option Value} (I : ObjM h x dx C mA) : ∃ od, PySem.W.InstAt h x (PySem.W.instObj C dx) C (some od) ∧ ∀ name, PySem.W.lookIn name od = some (mA name) :=
  let ⟨od, ho, hl⟩ := lookIn_ns I.ns
  ⟨od, ⟨I.obj, rfl, rfl, ho⟩, hl⟩

section
variable {prog : Program} {w : World} {A : Around} {E : Value → Shared → Prop} {s : Shared} {K : PySem.W.Frag} {x dx C f : Addr} {mA : Str → Option Value} {name : Str} {v : Value}

end

theorem RelO.some_of {v : V} {o : Option Value} (r : RelO (some v) o) : ∃ u, o = some u ∧ RelV v u := by
  cases o with
  | none => exact (show False from r).elim
  | some u => exact ⟨u, rfl, r⟩
section
variable {P : Program} {w : World} {H H' : Hp} {h h' : Heap} {a C dx : Addr} {fs fs' : List (Str × V)}
theorem ins_get (hok : HOk P w H h) (e : H a = some (.ins C dx fs)) : ∃ mA, ObjM h a dx C mA ∧ (∀ f, RelO (fs.lookup f) (mA f)) ∧ PySem.Within mA (fs.map (·.1)) ∧ fs.length ≤ 1000 ∧ H dx = some (.own a) := by
  obtain ⟨d, z, ne, ob, mA, n, r, q⟩ := (show ObjOk P w H h a (.ins C dx fs) from hok a _ e)
  exact ⟨mA, ⟨ob, n, ne⟩, r, q, z, d⟩
end

structure Cls (K : PySem.W.Frag) (C : Addr) : Prop where
  pg : PySem.W.plainGet K C Str.empty = true
  hd : PySem.W.hasDictIn K C = true
  po : PySem.W.plainOver K C = true
  sa : PySem.W.findIn K (.ref C) "__setattr__" = some (some (.builtin "object.__setattr__"))
theorem Cls.get {K : PySem.W.Frag} {C : Addr} (c : Cls K C) (f : Str) : PySem.W.plainGet K C f = true := c.pg
section
variable {X : Cx} {pins : List (Addr × Obj)} {σ : St} {H : Hp} {s : Shared} {a C dx : Addr} {fs : List (Str × V)} {f : Str} {v : V} {A : Around} {E : Value → Shared → Prop}

end

section
variable {X : Cx} {o e value : Expr} {f : Str} {pos pos' tpos : Pos} {ta tv : TE}
end

section
variable {X : Cx} {pins : List (Addr × Obj)} {σ : St} {H : Hp} {s : Shared} {A : Around} {E : Value → Shared → Prop} {Q : Value → Shared → Prop} {c : Value} {b : Bool}
inductive TyOf (K : PySem.W.Frag) (H : Hp) : V → Value → Prop where
  | non : TyOf K H .non (.type "NoneType")
  | bl (x : Bool) : TyOf K H (.bl x) (.type "bool")
  | int (i : Int) : TyOf K H (.int i) (.type "int")
  | str (x : Str) : TyOf K H (.str x) (.type "str")
  | flt (x : UInt64) : TyOf K H (.flt x) (.type "float")
  | lst {a : Addr} {xs : List V} (e : H a = some (.lst xs)) : TyOf K H (.ref a) (.type "list")
  | frz {a : Addr} {o : Obj} {xs : List V} (e : H a = some (.frz o (.lst xs))) : TyOf K H (.ref a) (.type "list")
  | tup {a : Addr} {xs : List V} (e : H a = some (.tup xs)) : TyOf K H (.ref a) (.type "tuple")
  | dK {a : Addr} {kvs : List (Key × V)} (e : H a = some (.dK kvs)) : TyOf K H (.ref a) (.type "dict")
  | dT {a : Addr} {kvs : List (List Key × V)} (e : H a = some (.dT kvs)) : TyOf K H (.ref a) (.type "dict")
  | ins {a C dx : Addr} {fs : List (Str × V)} (e : H a = some (.ins C dx fs)) (cl : Cls K C) (ha : PySem.W.findIn K (.ref C) "__class__" = some (some (.builtin "object.__class__")))
      (hn : PySem.W.specialIn K (.builtin "object.__class__") "__get__" = some (some (.builtin "getset_descriptor.__get__"))) (htk : PySem.W.takesIn K (.builtin "object.__class__") = some true)
      (hm : PySem.W.mroIn K C (.type "object") = some true) : TyOf K H (.ref a) (.ref C)
end
end L2

namespace L2
open PySem PySem.Spec PyProof.Rows

structure Room (k : Nat) (A : Around) : Prop where
  hd : A.handled = none
  dp : A.depth + 3 * k + 5 < recursionLimit
  un : A.units + 16 * k + 200 < cLine
theorem Room.mono {j k : Nat} {A : Around} (r : Room k A) (h : j ≤ k) : Room j A := ⟨r.hd, by have := r.dp; omega, by have := r.un; omega⟩
theorem Room.deeper {k : Nat} {A : Around} (r : Room (k + 1) A) (env : Env) : Room k (A.deeper env) :=
  ⟨r.hd, by have := r.dp; show A.depth + 1 + 3 * k + 5 < _; omega, by have := r.un; show A.units + 3 + 16 * k + 200 < _; omega⟩
theorem Room.in1 {k : Nat} {A : Around} (r : Room (k + 1) A) : Room k A.in1 :=
  ⟨r.hd, by have := r.dp; show A.depth + 3 * k + 5 < _; omega, by have := r.un; show A.units + 1 + 16 * k + 200 < _; omega⟩
theorem Room.depth {k : Nat} {A : Around} (r : Room k A) : A.depth < recursionLimit := by have := r.dp; omega
theorem Room.units {k : Nat} {A : Around} (r : Room k A) : A.units + 64 < cLine := by have := r.un; omega
def tNil : TA := fun _ H Q => Q [] H
def tCons (ta : TE) (tr : TA) : TA := fun σ H Q => ta σ H fun x H1 => tr σ H1 fun xs H2 => Q (x :: xs) H2
section
variable {X : Cx} {e : Expr} {es : List Expr} {te : TE} {t : TA} {pos : Pos}
theorem pa_nil : PA X [] tNil := fun _ _ _ _ H Q I h => Calls.spliced_nil ⟨[], H, I, .nil, h⟩
theorem pa_cons (ha : PE X e te) (hr : PA X es t) (hs : starEach (e :: es) X.env = (false, eval e X.env) :: starEach es X.env := by rfl) : PA X (e :: es) (tCons te t) := by
  intro pos pins s σ H Q I h
  rw [hs]
  show wpAny _ _ (spliced ((false, eval e X.env) :: backTo pos (starEach es X.env))) _ _ s
  refine Calls.spliced_cons (thn (ha pins s σ H _ I h) fun u s1 ⟨x, H1, I1, r1, q1⟩ => ?_)
  exact thn (hr pos pins s1 σ H1 _ I1 q1) fun us s2 ⟨xs, H2, I2, r2, q2⟩ => ⟨x :: xs, H2, I2, .cons r1 r2, q2⟩

def tTup (t : TA) : TE := fun σ H Q => t σ H fun xs H1 => xs.length ≤ sizeLine ∧ ∀ p, H1 p = none → Q (.ref p) (upd H1 p (.tup xs))
def tLst (t : TA) : TE := fun σ H Q => t σ H fun xs H1 => xs.length ≤ sizeLine ∧ ∀ p, H1 p = none → Q (.ref p) (upd H1 p (.lst xs))
theorem pe_tup {x1} (h : PA X es t) : PE X (.Tuple es x1 pos) (tTup t) := by
  intro pins s σ H Q I hq
  refine wpAny_Tuple_spliced (thn (h pos pins s σ H _ I hq) fun us s1 ⟨xs, H1, I1, r, z, q⟩ => ⟨by rw [← r.length]; exact z, ?_⟩)
  have hf : H1 s1.heap.objs.size = none := I1.hok.fresh (Nat.le_refl _)
  refine ⟨.ref s1.heap.objs.size, upd H1 s1.heap.objs.size (.tup xs), I1.laid (t' := s1.toks) (fun b u e => Heap.get?_push_of_some _ e) (Nat.le_refl _) ?_, rfl, q _ hf⟩
  exact ⟨z, us, r, ⟨_, Heap.get?_push_size _ rfl, rfl, _, rfl⟩⟩
theorem pe_lst (h : PA X es t) : PE X (.List es pos) (tLst t) := by
  intro pins s σ H Q I hq
  refine wpAny_List_spliced (thn (h pos pins s σ H _ I hq) fun us s1 ⟨xs, H1, I1, r, z, q⟩ => ⟨by rw [← r.length]; exact z, ?_⟩)
  have hf : H1 s1.heap.objs.size = none := I1.hok.fresh (Nat.le_refl _)
  refine ⟨.ref s1.heap.objs.size, upd H1 s1.heap.objs.size (.lst xs), I1.laid (t' := s1.toks) (fun b u e => Heap.get?_push_of_some _ e) (Nat.le_refl _) ?_, rfl, q _ hf⟩
  exact ⟨z, us, 0, r, Heap.get?_push_size _ rfl⟩
end

abbrev Sp := List V → Hp → VK → XK → Prop
abbrev CXT := List Env → Hp → Shared → XK → Value → Shared → Prop

structure Env0 (P : Program) (w : World) (K : PySem.W.Frag) (mg : Str → Option Value) (base : Heap) (A : Around) (outer : List Env) (s : Shared) (H : Hp) : Prop where
  frames : A.frames = some outer
  mod : Mod K mg base
  bs : ∀ b o, base.get? b = some o → s.heap.get? b = some o ∧ H b = none
  bsz : base.objs.size ≤ s.heap.objs.size
  funs : s.heap.FunFrames base outer
  frf : ∀ b ∈ frs outer, H b = none
  hok : HOk P w H s.heap
  bare : AllBare s.gens
def CE (outer : List Env) (P : Program) (w : World) (H : Hp) (s : Shared) (Q : VK) (u : Value) (s' : Shared) : Prop :=
  ∃ v H', s'.os = s.os ∧ AllBare s'.gens ∧ Un (frs outer) [] H H' s.heap s'.heap ∧ HOk P w H' s'.heap ∧ RelV v u ∧ Q v H'
def CR (CX : CXT) (outer : List Env) (P : Program) (w : World) (H : Hp) (s : Shared) (Q : VK) (E : XK) (r : Result) (s' : Shared) : Prop :=
  match r with
  | .ok (.ret u) => CE outer P w H s Q u s'
  | .ok _ => False
  | .error e => CX outer H s E e s'
structure FnOk (P : Program) (w : World) (K : PySem.W.Frag) (mg : Str → Option Value) (base : Heap) (CX : CXT) (k : Nat) (f : Addr) (fd : FuncData) (ps : List Str) (sp : Sp) : Prop where
  len : ∀ vs H Q E, sp vs H Q E → vs.length = ps.length
  run : ∀ (A : Around) (outer : List Env) (s : Shared) (H : Hp) (args : Args) (us : List Value) (vs : List V) (Q : VK) (E : XK), Room k A → Env0 P w K mg base A outer s H → BindsTo s fd args (ps.zip us) → Vals vs us → sp vs H Q E →
    codeAny (model P w) A (.call (.ref f) args) (CR CX outer P w H s Q E) s
theorem FnOk.mono {P : Program} {w : World} {K : PySem.W.Frag} {mg : Str → Option Value} {base : Heap} {CX : CXT} {j k : Nat} {f : Addr} {fd : FuncData} {ps : List Str} {sp : Sp} (F : FnOk P w K mg base CX j f fd ps sp) (h : j ≤ k) :
    FnOk P w K mg base CX k f fd ps sp := ⟨F.len, fun A outer s H args us vs Q E hr => F.run A outer s H args us vs Q E (hr.mono h)⟩
theorem FnOk.imp {P : Program} {w : World} {K : PySem.W.Frag} {mg : Str → Option Value} {base : Heap} {CX : CXT} {k : Nat} {f : Addr} {fd : FuncData} {ps : List Str} {sp sp' : Sp} (F : FnOk P w K mg base CX k f fd ps sp)
    (h : ∀ vs H Q E, sp' vs H Q E → sp vs H Q E) : FnOk P w K mg base CX k f fd ps sp' :=
  ⟨fun vs H Q E q => F.len vs H Q E (h _ _ _ _ q), fun A outer s H args us vs Q E hr he hb hv hs => F.run A outer s H args us vs Q E hr he hb hv (h _ _ _ _ hs)⟩

theorem Env0.in1 {P : Program} {w : World} {K : PySem.W.Frag} {mg : Str → Option Value} {base : Heap} {A : Around} {outer : List Env} {s : Shared} {H : Hp} (e : Env0 P w K mg base A outer s H) :
    Env0 P w K mg base A.in1 outer s H := ⟨e.frames, e.mod, e.bs, e.bsz, e.funs, e.frf, e.hok, e.bare⟩

section
variable {X : Cx} {pins : List (Addr × Obj)} {σ : St} {H : Hp} {s s' : Shared}
theorem Inv.env0 (I : Inv X pins σ H s) : Env0 X.prog X.w X.K X.mg X.base X.A X.stack s H :=
  ⟨I.ok.frames, I.ok.mod, I.bs, Nat.le_trans I.ok.bsz I.sz, I.stack, I.stkFree, I.hok, I.bare⟩
theorem Inv.after {Q : VK} {u : Value} (I : Inv X pins σ H s) (h : CE X.stack X.prog X.w H s Q u s') : EP X pins σ Q u s' := by
  obtain ⟨v, H', os, bare, un, hok, r, q⟩ := h
  obtain ⟨hh, g, d, t, os'⟩ := s'
  obtain rfl : os' = s.os := os
  exact ⟨v, H', I.call (h' := hh) (g' := g) (d' := d) (t' := t) (ch := []) un hok bare (fun b z => absurd z (by simp)), r, q⟩
end

def tCall (sp : Sp) (dvs : List V) (E : XK) (t : TA) : TE := fun σ H Q => t σ H fun vs H1 => sp (vs ++ dvs) H1 Q E
def Binds (K : PySem.W.Frag) (fd : FuncData) (ps : List Str) (ds : List Value) : Prop :=
  ∀ (s : Shared) (us : List Value), K.In s.heap → (us ++ ds).length = ps.length → BindsTo s fd ⟨us, []⟩ (ps.zip (us ++ ds))
theorem Binds.all {K : PySem.W.Frag} {fd : FuncData} {ps : List Str} (h : ∀ us : List Value, us.length = ps.length → bindArgs fd ⟨us, []⟩ = pure (ps.zip us)) : Binds K fd ps [] := fun s us _ hl => by
  rw [List.append_nil] at hl ⊢
  exact .of_eq (h us hl)

def Passes (CX : CXT) (X : Cx) (E : XK) : Prop := ∀ (pins : List (Addr × Obj)) (σ : St) (H : Hp) (s : Shared) (e : Value) (s' : Shared), Inv X pins σ H s → CX X.stack H s E e s' → X.xe e s'

section
variable {X : Cx} {CX : CXT} {k : Nat} {f C : Addr} {fd : FuncData} {ps : List Str} {sp : Sp} {dvs : List V} {ds : List Value} {E : XK} {x m : Str} {p pos apos : Pos} {e o : Expr} {es : List Expr} {ta : TE} {t : TA}

theorem run_fn {pins : List (Addr × Obj)} {σ : St} {H : Hp} {s : Shared} {Q : VK} {us : List Value} {vs : List V} (F : FnOk X.prog X.w X.K X.mg X.base CX k f fd ps sp) (hr : Room k X.A) (hb : Binds X.K fd ps ds) (hd : Vals dvs ds) (hx : Passes CX X E)
    (I : Inv X pins σ H s) (r : Vals vs us) (h : sp (vs ++ dvs) H Q E) : wpAny (model X.prog X.w) X.A (call (.ref f) us) (EP X pins σ Q) X.xe s := by
  have r2 : Vals (vs ++ dvs) (us ++ ds) := r.append hd
  have hl : (us ++ ds).length = ps.length := by rw [← r2.length]; exact F.len _ _ _ _ h
  refine wpAny_call (codeAny_mono (F.run X.A X.stack s H ⟨us, []⟩ (us ++ ds) (vs ++ dvs) Q E hr I.env0 (hb s us I.kIn hl) r2 h) fun r s' hq => ?_)
  cases r with
  | error e => exact hx pins σ H s e s' I hq
  | ok fl =>
    cases fl with
    | ret u => exact I.after hq
    | next => exact False.elim hq
    | brk => exact False.elim hq
    | cont => exact False.elim hq

theorem pe_call (F : FnOk X.prog X.w X.K X.mg X.base CX k f fd ps sp) (hr : Room k X.A) (hg : Gl X x) (hm : X.mg x = some (.ref f)) (hk : PySem.W.keepIn X.K (.ref f) = true) (hb : Binds X.K fd ps ds) (hd : Vals dvs ds) (hx : Passes CX X E)
    (ha : PA X (e :: es) t) (hdb : (x == ("__debug__" : Str)) = false := by decide) (he : starEach (e :: es) X.env = (false, eval e X.env) :: starEach es X.env := by rfl) (hpl : (backTo pos (starEach es X.env)).any (·.1) = false := by rfl) :
    PE X (.Call (.Name x p) (e :: es) [] pos) (tCall sp dvs E t) := by
  intro pins s σ H Q I h
  refine wpAny_Call_Name_kw (ld_glob I hg hm ?_ hdb)
  refine PySem.W.callWith_K (h₀ := X.base) I.ok.mod.kin hk (thn (ha pos pins s σ H _ I h) fun us s1 ⟨vs, H1, I1, r, q⟩ => ⟨I1.kIn, ?_⟩) he hpl
  exact run_fn F hr hb hd hx I1 r q
end

section
variable {X : Cx} {CX : CXT} {k : Nat} {f C : Addr} {fd : FuncData} {ps ks : List Str} {sp : Sp} {E : XK} {x m : Str} {p pos apos kpos : Pos} {e o : Expr} {es : List Expr} {kws : List Keyword} {te ta : TE} {t tk : TA} {nm : Option Str}
variable {g : List Value → List Value → List Value} {gV : List V → List V → List V}
end

structure FnScope (N P : List Str) (sc : Scope) : Prop where
  kind : sc.kind = .function
  co : sc.isCoroutine = false
  gen : sc.isGenerator = false
  nd : N.Nodup
  pre : N.take P.length = P
  par : ∀ x ∈ P, sc.names.lookup x = some .local ∨ sc.names.lookup x = some .cell
  nofree : ∀ y ∈ sc.names, y.2 ≠ .free

theorem bindL_out {kindOf : Str → Option NameKind} {x : Str} : ∀ {binds : List (Str × Value)} {m : Str → Option Value}, (∀ v, (x, v) ∉ binds) → bindL kindOf binds m x = m x
  | [], _, _ => rfl
  | (n, v) :: r, m, h => by
    unfold bindL
    rw [bindL_out fun w hw => h w (List.mem_cons_of_mem _ hw)]
    split
    · have : x ≠ n := by rintro rfl; exact h v List.mem_cons_self
      simp [this]
    · rfl
theorem bindC_out {kindOf : Str → Option NameKind} {x : Str} : ∀ {binds : List (Str × Value)} {m : Str → Option Value}, (∀ v, (x, v) ∉ binds) → bindC kindOf binds m x = m x
  | [], _, _ => rfl
  | (n, v) :: r, m, h => by
    unfold bindC
    rw [bindC_out fun w hw => h w (List.mem_cons_of_mem _ hw)]
    split
    · rfl
    · have : x ≠ n := by rintro rfl; exact h v List.mem_cons_self
      simp [this]
theorem bindL_get {kindOf : Str → Option NameKind} {x : Str} {v : Value} : ∀ {P : List Str} {vs : List Value} {i : Nat} {m : Str → Option Value}, P.Nodup → P[i]? = some x → vs[i]? = some v → kindOf x = some .local →
    bindL kindOf (P.zip vs) m x = some v
  | [], _, _, _, _, h, _, _ => by simp at h
  | _ :: _, [], _, _, _, _, h, _ => by simp at h
  | p :: P, w :: vs, 0, m, nd, h1, h2, hk => by
    simp at h1 h2; subst h1; subst h2
    show bindL kindOf ((p, w) :: P.zip vs) m p = _
    unfold bindL
    rw [bindL_out fun v hv => (List.nodup_cons.mp nd).1 (List.of_mem_zip hv).1, if_pos hk]
    simp
  | p :: P, w :: vs, i + 1, m, nd, h1, h2, hk => by
    show bindL kindOf ((p, w) :: P.zip vs) m x = _
    unfold bindL
    exact bindL_get (i := i) (List.nodup_cons.mp nd).2 (by simpa using h1) (by simpa using h2) hk
theorem bindC_get {kindOf : Str → Option NameKind} {x : Str} {v : Value} : ∀ {P : List Str} {vs : List Value} {i : Nat} {m : Str → Option Value}, P.Nodup → P[i]? = some x → vs[i]? = some v → kindOf x ≠ some .local →
    bindC kindOf (P.zip vs) m x = some v
  | [], _, _, _, _, h, _, _ => by simp at h
  | _ :: _, [], _, _, _, _, h, _ => by simp at h
  | p :: P, w :: vs, 0, m, nd, h1, h2, hk => by
    simp at h1 h2; subst h1; subst h2
    show bindC kindOf ((p, w) :: P.zip vs) m p = _
    unfold bindC
    rw [bindC_out fun v hv => (List.nodup_cons.mp nd).1 (List.of_mem_zip hv).1, if_neg hk]
    simp
  | p :: P, w :: vs, i + 1, m, nd, h1, h2, hk => by
    show bindC kindOf ((p, w) :: P.zip vs) m x = _
    unfold bindC
    exact bindC_get (i := i) (List.nodup_cons.mp nd).2 (by simpa using h1) (by simpa using h2) hk

def start (N : List Str) (vs : List V) : St := vs.map some ++ List.replicate (N.length - vs.length) none

def cxOf (CX : CXT) (P : Program) (w : World) (K : PySem.W.Frag) (mg : Str → Option Value) (base : Heap) (N : List Str) (qual : Str) (scope : Scope) (f : Addr) (cd : Value) (A : Around) (outer : List Env) (s : Shared) (H : Hp) (E : XK) : Cx where
  prog := P
  w := w
  K := K
  mg := mg
  base := base
  A := A.deeper (envOfC qual scope s.heap.objs.size f cd)
  N := N
  s₀ := s
  H₀ := H
  env := envOfC qual scope s.heap.objs.size f cd
  outer := outer
  stack := envOfC qual scope s.heap.objs.size f cd :: outer
  ex := []
  calm := true
  fn := fun _ => true
  pn := []
  xe := fun e s' => wpAny (model P w) (A.deeper (envOfC qual scope s.heap.objs.size f cd)) (leaving (envOfC qual scope s.heap.objs.size f cd) e) (fun _ s'' => CX outer H s E e s'') (fun e' s'' => CX outer H s E e' s'') s'

theorem cell_has {sc : Scope} {n : Nat} {x : Str} (h : sc.names.lookup x = some .cell) : ∃ c, (cellsFrom n sc.names []).lookup x = some c := by
  have q := PySem.W.cellsFrom_some sc.names n [] (.inl h)
  exact Option.isSome_iff_exists.mp q

theorem inv_start {CX : CXT} {P : Program} {w : World} {K : PySem.W.Frag} {mg : Str → Option Value} {base : Heap} {N ps : List Str} {qual : Str} {scope : Scope} {f : Addr} {cd : Value} {A : Around} {outer : List Env} {s s1 : Shared} {H : Hp} {E : XK} {us : List Value} {vs : List V}
    (S : FnScope N ps scope) (hd : A.handled = none) (e0 : Env0 P w K mg base A outer s H) (hl : vs.length = ps.length) (r : Vals vs us)
    (x : InCallC s s.heap.objs.size (bindL (envOfC qual scope s.heap.objs.size f cd).kindOf (ps.zip us) fun _ => none) (cellsFrom (s.heap.objs.size + 1) scope.names []) (bindC (envOfC qual scope s.heap.objs.size f cd).kindOf (ps.zip us) fun _ => none) s1) :
    Inv (cxOf CX P w K mg base N qual scope f cd A outer s H E) [] (start N vs) H s1 := by
  have hpl : ps.length ≤ N.length := by have := congrArg List.length S.pre; rw [List.length_take] at this; omega
  obtain ⟨h1, tk, rfl, hk⟩ := x.done
  have noA : ∀ b : Addr, b ∉ (cxOf CX P w K mg base N qual scope f cd A outer s H E).ex := fun b z => absurd (show b ∈ ([] : List Addr) from z) (by simp)
  refine ⟨⟨e0.mod, S.kind, rfl, rfl, Nat.le_refl _, fun y z c h1 h2 => ?_, fun y hy => ?_, fun y c _ h => ?_, fun _ => hd, Around.frames_deeper e0.frames, .inr ⟨rfl, rfl⟩, fun b z => absurd z (noA b), e0.bs, e0.bsz, fun b _ _ => noA b, fun b z => absurd z (noA b), e0.funs, e0.frf⟩,
    rfl, e0.bare, Un.kept hk, ⟨_, x.toInCall.ns, fun i y v h1 h2 h3 => ?_⟩, fun y c h => ⟨_, x.cell y c h⟩, e0.hok.fresh (Nat.le_refl _), fun y c h => ?_, fun p hp => absurd (show p ∈ ([] : List (Addr × Obj)) from hp) (by simp), e0.hok.kept hk, ?_⟩
  · exact name_of_addr x.apart (PySem.mem_of_lookup h1) (PySem.mem_of_lookup h2)
  · have hy : scope.names.lookup y = some .cell ∨ scope.names.lookup y = some .free := hy
    rcases hy with hy | hy
    · exact cell_has hy
    · exact absurd rfl (S.nofree _ (PySem.mem_of_lookup hy))
  · exact Nat.le_of_lt (x.above y c (PySem.mem_of_lookup h))
  · have hi : i < vs.length := by
      unfold start at h2
      by_cases hi : i < vs.length
      · exact hi
      · rw [List.getElem?_append_right (by simpa using hi)] at h2
        rw [List.getElem?_replicate] at h2
        split at h2 <;> cases h2
    have ha : vs[i]? = some v := by
      unfold start at h2
      rw [List.getElem?_append_left (by simpa using hi), List.getElem?_map] at h2
      cases e : vs[i]? with
      | none => rw [e] at h2; cases h2
      | some a => rw [e] at h2; cases h2; rfl
    obtain ⟨u, hu, rv⟩ := r.get ha
    have hp : ps[i]? = some y := by
      rw [← S.pre, List.getElem?_take_of_lt (by omega)]; exact h1
    have ndP : ps.Nodup := by rw [← S.pre]; exact S.nd.sublist (List.take_sublist _ _)
    refine ⟨u, rv, ?_⟩
    rcases S.par y (List.mem_of_getElem? hp) with k | k
    · exact .inl ⟨k, bindL_get ndP hp hu k⟩
    · obtain ⟨c, e⟩ := cell_has (n := s.heap.objs.size + 1) k
      refine .inr ⟨.inl k, c, e, ?_⟩
      have q := x.cell y c e
      rw [bindC_get ndP hp hu (by show scope.names.lookup y ≠ _; rw [k]; decide)] at q
      exact q
  · exact e0.hok.fresh (Nat.le_of_lt (x.above y c (PySem.mem_of_lookup h)))
  · unfold start
    show _ = N.length
    rw [List.length_append, List.length_map, List.length_replicate]
    omega

theorem fn_of {CX : CXT} {P : Program} {w : World} {K : PySem.W.Frag} {mg : Str → Option Value} {base : Heap} {k : Nat} {f : Addr} {name qual : Str} {params : Arguments} {body : List Stmt} {scope : Scope} {dV kV doc pm cdv ct oc : Value} {an od : Option Addr}
    {osl : Array (Option Value)} {N ps : List Str} {sp : Sp} (lk : K.lookup f = some ⟨oc, od, .func (PySem.W.fnOf name qual params body scope dV kV doc pm an cdv ct), osl⟩) (hcd : PySem.W.codeIn K cdv qual = true) (S : FnScope N ps scope)
    (len : ∀ vs H Q E, sp vs H Q E → vs.length = ps.length)
    (hbody : ∀ (A : Around) (outer : List Env) (s : Shared) (H : Hp) (vs : List V) (Q : VK) (E : XK), Room k (A.deeper (envOfC qual scope s.heap.objs.size f cdv)) → sp vs H Q E →
      ∃ t, PSs (cxOf CX P w K mg base N qual scope f cdv A outer s H E) body t ∧ t { nx := fun _ H' => Q .non H', rt := Q } (start N vs) H) :
    FnOk P w K mg base CX (k + 1) f (PySem.W.fnOf name qual params body scope dV kV doc pm an cdv ct) ps sp := by
  refine ⟨len, fun A outer s H args us vs Q E hr e0 hb r hsp => ?_⟩
  have hl := len _ _ _ _ hsp
  have KX : K.In s.heap := e0.mod.kin.keeps fun b o e => (e0.bs b o e).1
  have lim : s.heap.NoLimit := e0.mod.nolimit.keeps fun b o e => (e0.bs b o e).1
  have hkind : ∀ y ∈ ps.zip us, scope.names.lookup y.1 = some .local ∨ (scope.names.lookup y.1 = some .cell ∧ ((cellsFrom (s.heap.objs.size + 1) scope.names []).lookup y.1).isSome = true) := fun ⟨n, v⟩ hy => by
    rcases S.par n (List.of_mem_zip hy).1 with q | q
    · exact .inl q
    · exact .inr ⟨q, PySem.W.cellsFrom_some _ _ _ (.inl q)⟩
  refine codeAny_call_function hr.depth (KX _ _ lk) rfl S.co S.gen rfl (PySem.W.codeRec_of KX hcd) (hb _ _ _ _ ?_)
  refine wpAny_newFunctionEnv_cells S.kind hkind fun env he s1 x => ?_
  subst he
  refine ⟨lim.keeps x.toInCall.keep, codeAny_func ?_⟩
  obtain ⟨t, ht, hq⟩ := hbody A outer s H vs Q E (hr.deeper _) hsp
  have I : Inv (cxOf CX P w K mg base N qual scope f cdv A outer s H E) [] (start N vs) H s1 := inv_start S hr.hd e0 hl r x
  refine wpAny_mono (ht [] s1 (start N vs) H _ I hq) (fun fl s' hs => ?_) fun e s' hs => hs
  have fin : ∀ {σ' : St} {H' : Hp} {v : V} {u : Value}, Inv (cxOf CX P w K mg base N qual scope f cdv A outer s H E) [] σ' H' s' → RelV v u → Q v H' → CE outer P w H s Q u s' :=
    fun {σ' H' v u} J rv q => ⟨v, H', J.os, J.bare, J.base, J.hok, rv, q⟩
  cases fl with
  | ret u =>
    obtain ⟨v, σ', H', J, rv, q⟩ := hs
    exact fin J rv q
  | next =>
    obtain ⟨σ', H', J, q⟩ := hs
    exact fin (v := V.non) (u := Value.none) J rfl q
  | brk =>
    obtain ⟨_, _, _, q⟩ := hs
    exact False.elim q
  | cont =>
    obtain ⟨_, _, _, q⟩ := hs
    exact False.elim q
end L2

namespace L2
open PySem PySem.Spec PyProof.Rows
section
variable {X : Cx} {x : Str} {p pos : Pos} {e : Expr} {es : List Expr} {t : TA} {id T : String} {r : List V → Hp → VK → Prop}

def tCB (r : List V → Hp → VK → Prop) (t : TA) : TE := fun σ H Q => t σ H fun vs H1 => r vs H1 Q
theorem pe_callB (hc : CallR X (.builtin id) r) (hg : Gl X x) (hm : X.mg x = none) (hv : bootBuiltins x = some (.builtin id)) (ha : PA X (e :: es) t) (hn : x ≠ "__name__" := by decide) (hdb : (x == ("__debug__" : Str)) = false := by decide)
    (he : starEach (e :: es) X.env = (false, eval e X.env) :: starEach es X.env := by rfl) (hpl : (backTo pos (starEach es X.env)).any (·.1) = false := by rfl) : PE X (.Call (.Name x p) (e :: es) [] pos) (tCB r t) := by
  intro pins s σ H Q I h
  refine wpAny_Call_Name_kw (ld_blt I hg hm hv ?_ hn hdb)
  exact PyProof.Rows.callWith_builtin1 (thn (ha pos pins s σ H _ I h) fun us s1 ⟨vs, H1, I1, r1, q1⟩ => hc pins s1 σ H1 vs us Q I1 r1 q1) he hpl
theorem pe_callTy (hc : CallR X (.type T) r) (hg : Gl X x) (hm : X.mg x = none) (hv : bootBuiltins x = some (.type T)) (ha : PA X (e :: es) t) (hn : x ≠ "__name__" := by decide) (hdb : (x == ("__debug__" : Str)) = false := by decide)
    (he : starEach (e :: es) X.env = (false, eval e X.env) :: starEach es X.env := by rfl) (hpl : (backTo pos (starEach es X.env)).any (·.1) = false := by rfl) : PE X (.Call (.Name x p) (e :: es) [] pos) (tCB r t) := by
  intro pins s σ H Q I h
  refine wpAny_Call_Name_kw (ld_blt I hg hm hv ?_ hn hdb)
  exact PyProof.Rows.callWith_type1 (thn (ha pos pins s σ H _ I h) fun us s1 ⟨vs, H1, I1, r1, q1⟩ => hc pins s1 σ H1 vs us Q I1 r1 q1) he hpl
end
end L2

namespace HT
open PySem PyProof.Rows

section
open PySem.SeqAt
open PySem.AutoSeq1 (wpAny_loadPart')
open PySem.MeetsSeq PySem.MeetsSeq2 PySem.MeetsSeq3

end

section
variable {prog : Program} {w : World} {A : Around} {E : Value → Shared → Prop} {s : Shared}

theorem cat_tup {t b : Addr} {vs ws : List Value} {Q : Value → Shared → Prop} (ht : IsTup s.heap t vs.toArray) (hb : IsTup s.heap b ws.toArray) (hv : vs ≠ [])
    (h1 : ws = [] → Q (.ref t) s) (h2 : ws ≠ [] → Q (.ref s.heap.objs.size) { s with heap := s.heap.push { cls := .type "tuple", data := .seq (vs ++ ws).toArray } })
    (hsz : vs.length + ws.length ≤ sizeLine) : wpAny (model prog w) A (binaryOp .Add (.ref t) (.ref b)) Q E s := by
  obtain ⟨⟨cls, dd, data, sl⟩, ho, hc, n, hd⟩ := id ht
  obtain ⟨⟨cls2, dd2, data2, sl2⟩, ho2, hc2, n2, hd2⟩ := id hb
  simp only at hc hd hc2 hd2
  subst hc hd hc2 hd2
  have e : vs.toArray ++ ws.toArray = (vs ++ ws).toArray := by simp
  by_cases hw : ws = []
  · exact concat_meets ⟨_, ho, rfl⟩ ⟨_, ho2, rfl⟩ noFill_tuple_add seq_tuple_add PySem.F.slot_tuple_add PySem.F.entry_tuple_add (PySem.F.args_tuple_add_2 _ _)
      (tuple_addW1 t b vs.toArray ws.toArray n n2 dd dd2 sl sl2 (by simpa using hv) (by simp [hw])) ⟨ho, ho2, h1 hw⟩
  · refine concat_meets ⟨_, ho, rfl⟩ ⟨_, ho2, rfl⟩ noFill_tuple_add seq_tuple_add PySem.F.slot_tuple_add PySem.F.entry_tuple_add (PySem.F.args_tuple_add_2 _ _)
      (tuple_addW2 t b vs.toArray ws.toArray n n2 dd dd2 sl sl2 (by simpa using hv) (by simpa using hw) (by rw [List.size_toArray, List.size_toArray]; exact hsz)) ⟨ho, ho2, ?_⟩
    rw [e]
    exact h2 hw

def sIx (n d : Nat) : Option Int → Nat
  | none => d
  | some v => if v < 0 then (v + (n : Int)).toNat else min v.toNat n
theorem sIx_le (n d : Nat) (hd : d ≤ n) (o : Option Int) : sIx n d o ≤ n := by
  cases o with
  | none => exact hd
  | some v =>
    show (if v < 0 then (v + (n : Int)).toNat else min v.toNat n) ≤ n
    by_cases hv : v < 0
    · rw [if_pos hv]; omega
    · rw [if_neg hv]; exact Nat.min_le_right _ _
theorem clip_eq (v : Int) (n d : Nat) : (if v < 0 then max (v + (n : Int)) 0 else min v (n : Int)) = ((sIx n d (some v) : Nat) : Int) := by
  show (if v < 0 then max (v + (n : Int)) 0 else min v (n : Int)) = (((if v < 0 then (v + (n : Int)).toNat else min v.toNat n) : Nat) : Int)
  by_cases hv : v < 0
  · simp only [if_pos hv]; omega
  · simp only [if_neg hv]; omega
theorem adjust_gen (lo hi : Option Int) (n : Nat) : Builtin.Slice.sliceAdjust lo hi 1 (n : Int) = (((sIx n 0 lo : Nat) : Int), ((sIx n n hi : Nat) : Int)) := by
  have h1 : ¬ ((1 : Int) < 0) := by omega
  unfold Builtin.Slice.sliceAdjust
  simp only [h1, if_false]
  refine Prod.ext ?_ ?_
  · cases lo with
    | none => rfl
    | some v => exact clip_eq v n 0
  · cases hi with
    | none => rfl
    | some v => exact clip_eq v n n
theorem places_gen (i j : Nat) : Builtin.Slice.slicePlaces (i : Int) (j : Int) 1 = j - i := by
  unfold Builtin.Slice.slicePlaces
  have h1 : (1 : Int) > 0 := by omega
  simp only [h1, if_true, Int.ediv_one]
  split <;> omega
theorem slicePart_ {v : Value} {o : Option Int} {Q : Option Int → Shared → Prop} (p : IsPart v o) (h : Q o s) : wpAny (model prog w) A (Builtin.Slice.slicePartIndex v) Q E s := by
  cases p with
  | none => exact slicePart_none h
  | int i t => exact slicePart_int h
theorem sliceApplied_gen {sl : Addr} {vl vu : Value} {lo hi : Option Int} {n : Nat} {Q : Int × Int × Nat → Shared → Prop} (hs : s.heap.IsSliceOf sl vl vu .none) (pl : IsPart vl lo) (pu : IsPart vu hi)
    (h : Q (((sIx n 0 lo : Nat) : Int), 1, sIx n n hi - sIx n 0 lo) s) : wpAny (model prog w) A (Builtin.Slice.sliceApplied (.ref sl) (pure (n : Int))) Q E s := by
  obtain ⟨os, hos, hcs, hds⟩ := id hs
  unfold Builtin.Slice.sliceApplied Builtin.Slice.sliceFields
  refine wpAny_bind (wpAny_bind (wpAny_field hos hds (x := vl) rfl (wpAny_bind (wpAny_field hos hds (x := vu) rfl (wpAny_bind (wpAny_field hos hds (x := .none) rfl (wpAny_pure ?_)))))))
  refine wpAny_bind (slicePart_none ?_)
  show wpAny _ _ (if ((1 : Int) == 0) = true then _ else _) _ _ s
  rw [if_neg (by decide)]
  refine wpAny_bind (slicePart_ pl (wpAny_bind (slicePart_ pu (wpAny_bind (wpAny_pure ?_)))))
  show wpAny _ _ (match Builtin.Slice.sliceAdjust lo hi 1 (n : Int) with | (lo, hi) => pure (lo, (1 : Int), Builtin.Slice.slicePlaces lo hi 1)) _ _ s
  rw [adjust_gen lo hi n]
  show wpAny _ _ (pure (((sIx n 0 lo : Nat) : Int), (1 : Int), Builtin.Slice.slicePlaces ((sIx n 0 lo : Nat) : Int) ((sIx n n hi : Nat) : Int) 1)) _ _ s
  rw [places_gen]
  exact wpAny_pure h
theorem pick_gen (xs : Array Value) (i k : Nat) : ((List.range k).filterMap fun (m : Nat) => xs[((i : Int) + (m : Int) * 1).toNat]?).toArray = ((xs.toList.drop i).take k).toArray := by
  have e : (fun (m : Nat) => xs[((i : Int) + (m : Int) * 1).toNat]?) = fun m => xs[i + m]? := by
    funext m
    have : ((i : Int) + (m : Int) * 1).toNat = i + m := by omega
    rw [this]
  rw [e]
  have := pick_run xs i k
  rw [List.filterMap_map] at this
  have e2 : ((fun x => xs[x]?) ∘ fun x => i + x) = fun m => xs[i + m]? := rfl
  rw [e2] at this
  rw [this]

theorem getItem_tuple_cut {t sl : Addr} {items : Array Value} {vl vu : Value} {lo hi : Option Int} {Q : Value → Shared → Prop} (ht : IsTup s.heap t items) (hs : s.heap.IsSliceOf sl vl vu .none) (pl : IsPart vl lo) (pu : IsPart vu hi)
    (hw : ¬ (sIx items.size 0 lo = 0 ∧ sIx items.size items.size hi = items.size))
    (h : Q (.ref s.heap.objs.size) { s with heap := s.heap.push { cls := .type "tuple", data := .seq ((items.toList.drop (sIx items.size 0 lo)).take (sIx items.size items.size hi - sIx items.size 0 lo)).toArray } })
    (hsz : items.size ≤ sizeLine) : wpAny (model prog w) A (getItem (.ref t) (.ref sl)) Q E s := by
  have htake : sizeOk (.seq ((items.toList.drop (sIx items.size 0 lo)).take (sIx items.size items.size hi - sIx items.size 0 lo)).toArray) := by
    show ((items.toList.drop (sIx items.size 0 lo)).take (sIx items.size items.size hi - sIx items.size 0 lo)).toArray.size ≤ sizeLine
    rw [List.size_toArray, List.length_take, List.length_drop, Array.length_toList]
    omega
  have hj : sIx items.size items.size hi ≤ items.size := sIx_le _ _ (Nat.le_refl _) hi
  obtain ⟨os, hos, hcs, hds⟩ := id hs
  have hTs : s.TypeIs (.ref sl) "slice" := ⟨os, hos, hcs⟩
  unfold getItem
  try with_reducible refine wpAny_holding ?_
  first | refine wpAny_bind (wpAny_pure ?_) | skip
  refine wpAny_bind (wpAny_sequenceKey ht.typeIs (by decide) ?_)
  refine wpAny_bind (wpAny_callSpecial?_slot (name := Str.ofString "__getitem__") ht.typeIs PyProof.Rows.slot_tuple_getitem
    (wpAny_call_entry PyProof.Rows.slot_tuple_getitem ht.typeIs entry_tuple_getitem ?_ (args_tuple_getitem _ _)))
  show wpAny _ _ (Builtin.Tuple.tupleItemsOf (.ref t) >>= _) _ _ s
  refine wpAny_bind (tupleItemsOf_ ht ?_)
  refine wpAny_bind (wpAny_typeOf hTs ?_)
  rw [if_pos (by decide)]
  refine wpAny_bind (sliceApplied_gen hs pl pu ?_)
  have hno : ¬ ((((sIx items.size 0 lo : Nat) : Int) == 0 && (1 : Int) == 1 && (sIx items.size items.size hi - sIx items.size 0 lo) == items.size) = true) := by
    intro q
    rw [Bool.and_eq_true, Bool.and_eq_true] at q
    have q1 : ((sIx items.size 0 lo : Nat) : Int) = 0 := eq_of_beq q.1.1
    have q2 : sIx items.size items.size hi - sIx items.size 0 lo = items.size := eq_of_beq q.2
    exact hw ⟨by omega, by omega⟩
  show wpAny _ _ (if (((sIx items.size 0 lo : Nat) : Int) == 0 && (1 : Int) == 1 && (sIx items.size items.size hi - sIx items.size 0 lo) == items.size) = true then _ else _) _ _ s
  rw [if_neg hno, pick_gen]
  first
    | exact wpAny_bind (m := Builtin.Tuple.tupleExact _) (wpAny_newObj_type (wpAny_pure ⟨_, rfl, wpAny_pure h⟩) htake)
    | exact wpAny_bind (m := Builtin.Tuple.tupleExact _) (wpAny_newObj_type (wpAny_bind (wpAny_pure (wpAny_pure ⟨_, rfl, wpAny_pure h⟩))) htake)
    | exact wpAny_bind (wpAny_bind (m := Builtin.Tuple.tupleExact _) (wpAny_newObj_type (wpAny_pure (wpAny_pure ⟨_, rfl, wpAny_pure h⟩)) htake))
    | exact wpAny_bind (wpAny_bind (m := Builtin.Tuple.tupleExact _) (wpAny_newObj_type (wpAny_pure ⟨_, rfl, wpAny_pure h⟩) htake))
end
end HT

namespace L2
open PySem PySem.Spec PyProof.Rows

abbrev TO := St → Hp → (Option Int → Hp → Prop) → Prop
def PO (X : Cx) (e : Option Expr) (t : TO) : Prop :=
  ∀ (pins : List (Addr × Obj)) (s : Shared) (σ : St) (H : Hp) (Q : Option Int → Hp → Prop), Inv X pins σ H s → t σ H Q →
    wpAny (model X.prog X.w) X.A (evalPart e X.env) (fun u s' => ∃ o H', Inv X pins σ H' s' ∧ IsPart u o ∧ Q o H') X.xe s
def tNoPart : TO := fun _ H Q => Q none H
def tPart (t : TE) : TO := fun σ H Q => t σ H fun x H1 => ∃ i, x = .int i ∧ Q (some i) H1

theorem intsAre_of {ns : List Int} : ∀ {us : List Value}, Vals (ns.map V.int) us → IntsAre us ns := by
  induction ns with
  | nil => intro us r; rw [List.map_nil] at r; cases r; exact .nil
  | cons n ns ih =>
    intro us r
    rw [List.map_cons] at r
    cases r with
    | cons r1 r2 =>
      obtain ⟨t, e⟩ := r1
      subst e
      exact .cons n t (ih r2)

section
variable {X : Cx} {e : Expr} {te : TE} {lo hi : Option Expr} {tl th : TO} {pos p2 : Pos}

theorem po_none : PO X none tNoPart := by
  intro pins s σ H Q I h
  rw [evalPart_none]
  exact wpAny_pure ⟨none, H, I, .none, h⟩
theorem po_some (h : PE X e te) : PO X (some e) (tPart te) := by
  intro pins s σ H Q I hw
  rw [evalPart_some]
  refine thn (h pins s σ H _ I hw) fun u s1 ⟨x, H1, I1, r1, q1⟩ => ?_
  obtain ⟨i, rfl, q⟩ := q1
  obtain ⟨t, rfl⟩ := r1
  exact ⟨some i, H1, I1, .int i t, q⟩

def SlR (X : Cx) (r : V → Option Int → Option Int → Hp → VK → Prop) : Prop :=
  ∀ (pins : List (Addr × Obj)) (s : Shared) (σ : St) (H : Hp) (x : V) (v vl vu : Value) (lo hi : Option Int) (sl : Addr) (Q : VK), Inv X pins σ H s → RelV x v → s.heap.IsSliceOf sl vl vu .none → IsPart vl lo → IsPart vu hi → r x lo hi H Q →
    ∃ T id, typeLookup (.type T) "__getitem__" = pure (some (.builtin id)) ∧ s.TypeIs v T ∧ wpAny (model X.prog X.w) X.A (getItem v (.ref sl)) (EP X pins σ Q) X.xe s
theorem SlR.or {r r' : V → Option Int → Option Int → Hp → VK → Prop} (h : SlR X r) (h' : SlR X r') : SlR X (fun x lo hi H Q => r x lo hi H Q ∨ r' x lo hi H Q) := by
  intro pins s σ H x v vl vu lo hi sl Q I rx hs pl pu q
  rcases q with q | q
  · exact h pins s σ H x v vl vu lo hi sl Q I rx hs pl pu q
  · exact h' pins s σ H x v vl vu lo hi sl Q I rx hs pl pu q
def tSl (r : V → Option Int → Option Int → Hp → VK → Prop) (te : TE) (tl th : TO) : TE := fun σ H Q => te σ H fun x H1 => tl σ H1 fun l H2 => th σ H2 fun u H3 => r x l u H3 Q
theorem pe_slice {r : V → Option Int → Option Int → Hp → VK → Prop} (hr : SlR X r) (he : PE X e te) (hl : PO X lo tl) (hu : PO X hi th) : PE X (.Subscript e (.Slice lo hi none p2) pos) (tSl r te tl th) := by
  intro pins s σ H Q I h
  refine Subscript_ (thn (he pins s σ H _ I h) fun v s1 ⟨x, H1, I1, r1, q1⟩ => ?_)
  refine wpAny_Slice (thn (hl pins s1 σ H1 _ I1 q1) fun vl s2 ⟨l, H2, I2, pl, q2⟩ => thn (hu pins s2 σ H2 _ I2 q2) fun vu s3 ⟨u, H3, I3, pu, q3⟩ => ?_)
  rw [evalPart_none]
  refine wpAny_pure ?_
  have I4 : Inv X pins σ H3 { s3 with heap := s3.heap.push { cls := .type "slice", data := .fields #[vl, vu, .none] } } := I3.kept (t' := s3.toks) fun b ob q => Heap.get?_push_of_some _ q
  obtain ⟨T, id, hT, ht, hg⟩ := hr pins { s3 with heap := s3.heap.push { cls := .type "slice", data := .fields #[vl, vu, .none] } } σ H3 x v vl vu l u s3.heap.objs.size Q I4 r1 (Heap.IsSliceOf.new ..) pl pu q3
  show wpAny (model X.prog X.w) X.A (subscriptTail e (.Slice lo hi none p2) v (.ref s3.heap.objs.size)) (EP X pins σ Q) X.xe { s3 with heap := s3.heap.push { cls := .type "slice", data := .fields #[vl, vu, .none] } }
  exact tail_any (ops := [.ref s3.heap.objs.size, v]) ht hT hg (by with_unfolding_all rfl)

def cutV (xs : List V) (lo hi : Option Int) : List V := (xs.drop (HT.sIx xs.length 0 lo)).take (HT.sIx xs.length xs.length hi - HT.sIx xs.length 0 lo)
theorem cutV_length (xs : List V) (lo hi : Option Int) : (cutV xs lo hi).length ≤ xs.length := by
  unfold cutV
  rw [List.length_take, List.length_drop]
  omega
def rSlT (K : PySem.W.Frag) : V → Option Int → Option Int → Hp → VK → Prop := fun x lo hi H Q => ∃ a xs, x = .ref a ∧ SqT K H a xs ∧
  ¬ (HT.sIx xs.length 0 lo = 0 ∧ HT.sIx xs.length xs.length hi = xs.length) ∧ ∀ p, H p = none → Q (.ref p) (upd H p (.tup (cutV xs lo hi)))
theorem sl_tup : SlR X (rSlT X.K) := by
  intro pins s σ H x v vl vu lo hi sl Q I rx hs pl pu h
  obtain ⟨a, xs, rfl, hx, hw, q⟩ := h
  cases rx
  obtain ⟨its, r, ht, hz⟩ := I.tuple hx
  have hlen : its.toArray.size = xs.length := by rw [List.size_toArray]; exact r.length.symm
  refine ⟨"tuple", _, PyProof.Rows.slot_tuple_getitem.lookup, ht.typeIs, ?_⟩
  refine HT.getItem_tuple_cut ht hs pl pu (by rw [hlen]; exact hw) ?_ (by rw [hlen]; exact hz)
  rw [hlen]
  refine ⟨.ref s.heap.objs.size, _, I.laid (t' := s.toks) (o := .tup (cutV xs lo hi)) (fun b ob q => Heap.get?_push_of_some _ q) (Nat.le_refl _) ?_, rfl, q _ (I.hok.fresh (Nat.le_refl _))⟩
  exact ⟨Nat.le_trans (cutV_length xs lo hi) hz, _, (r.drop (HT.sIx xs.length 0 lo)).take (HT.sIx xs.length xs.length hi - HT.sIx xs.length 0 lo), IsTup.new _ _⟩

def rCatT (K : PySem.W.Frag) : R2 := fun x y H Q => ∃ a b xs ys, x = .ref a ∧ y = .ref b ∧ SqT K H a xs ∧ SqT K H b ys ∧ xs ≠ [] ∧ xs.length + ys.length ≤ sizeLine ∧
  (ys = [] → Q (.ref a) H) ∧ (ys ≠ [] → ∀ p, H p = none → Q (.ref p) (upd H p (.tup (xs ++ ys))))
theorem Vals.nil_iff {xs : List V} {us : List Value} (r : Vals xs us) : us = [] ↔ xs = [] := by
  cases r with
  | nil => simp
  | cons _ _ => simp
theorem op_catT : OpR X (binaryOp .Add) (rCatT X.K) := by
  intro pins s σ H x y v u Q I rx ry h
  obtain ⟨a, b, xs, ys, rfl, rfl, ha, hb, hx, hz, q1, q2⟩ := h
  cases rx
  cases ry
  obtain ⟨its, r1, p1, _⟩ := I.tuple ha
  obtain ⟨its2, r2, p2, _⟩ := I.tuple hb
  refine HT.cat_tup p1 p2 (fun z => hx (r1.nil_iff.mp z)) (fun z => ⟨.ref a, H, I, rfl, q1 (r2.nil_iff.mp z)⟩) (fun z => ?_) (by rw [← r1.length, ← r2.length]; exact hz)
  refine ⟨.ref s.heap.objs.size, _, I.laid (t' := s.toks) (o := .tup (xs ++ ys)) (fun b ob q => Heap.get?_push_of_some _ q) (Nat.le_refl _) ?_, rfl, q2 (fun w => z (r2.nil_iff.mpr w)) _ (I.hok.fresh (Nat.le_refl _))⟩
  exact ⟨by rw [List.length_append]; exact hz, _, r1.append r2, IsTup.new _ _⟩
end
end L2

namespace L2
open PySem PySem.Spec PyProof.Rows

def ixN (n : Nat) (i : Int) : Option Nat := if 0 ≤ i then (if i < n then some i.toNat else none) else if -(n : Int) ≤ i then some (i + n).toNat else none
def atI {α : Type} (xs : List α) (i : Int) : Option α := (ixN xs.length i).bind fun j => xs[j]?
theorem ixN_seq {n : Nat} {i : Int} {j : Nat} (h : ixN n i = some j) : seqIndex? i n = some j ∧ j < n ∧ -(n : Int) ≤ i ∧ i < n := by
  unfold ixN at h
  by_cases h0 : 0 ≤ i
  · rw [if_pos h0] at h
    by_cases h1 : i < n
    · rw [if_pos h1] at h
      have e : i.toNat = j := Option.some.inj h
      exact ⟨by rw [seqIndex_of h0 h1, e], by omega, by omega, h1⟩
    · rw [if_neg h1] at h; cases h
  · rw [if_neg h0] at h
    by_cases h1 : -(n : Int) ≤ i
    · rw [if_pos h1] at h
      have e : (i + n).toNat = j := Option.some.inj h
      exact ⟨by rw [seqIndex_neg (by omega) h1, e], by omega, h1, by omega⟩
    · rw [if_neg h1] at h; cases h
theorem atI_get {α : Type} {xs : List α} {i : Int} {v : α} (h : atI xs i = some v) : ∃ j, seqIndex? i xs.length = some j ∧ xs[j]? = some v ∧ j < xs.length ∧ -(xs.length : Int) ≤ i ∧ i < xs.length := by
  unfold atI at h
  cases e : ixN xs.length i with
  | none => rw [e] at h; cases h
  | some j =>
    rw [e] at h
    obtain ⟨h1, h2, h3, h4⟩ := ixN_seq e
    exact ⟨j, h1, h, h2, h3, h4⟩
theorem atI_nat {α : Type} {xs : List α} {j : Nat} {v : α} (h : xs[j]? = some v) : atI xs (j : Int) = some v := by
  have hj : j < xs.length := (List.getElem?_eq_some_iff.mp h).1
  have e : ixN xs.length (j : Int) = some j := by
    unfold ixN
    rw [if_pos (by omega), if_pos (by omega)]; simp
  unfold atI; rw [e]; exact h
def PlainIx (b : Expr) : Prop := ∀ o i, subscripted b false o i = operate [o, i] (getItem o i)
def IxR (X : Cx) (r : R2) : Prop :=
  ∀ (value slice : Expr) (pins : List (Addr × Obj)) (s : Shared) (σ : St) (H : Hp) (x y : V) (v u : Value) (Q : VK), Inv X pins σ H s → RelV x v → RelV y u → r x y H Q →
    subscripted slice false v u = operate [v, u] (getItem v u) → wpAny (model X.prog X.w) X.A (subscriptTail value slice v u) (EP X pins σ Q) X.xe s
def MtR (X : Cx) (id : String) (r : V → List V → Hp → VK → Prop) : Prop :=
  ∀ (pins : List (Addr × Obj)) (s : Shared) (σ : St) (H : Hp) (x : V) (xs : List V) (v : Value) (us : List Value) (Q : VK), Inv X pins σ H s → RelV x v → Vals xs us → r x xs H Q →
    wpAny (model X.prog X.w) X.A (call (.builtin id) (v :: us)) (EP X pins σ Q) X.xe s
section
variable {X : Cx} {a b : Expr} {ta tb : TE} {pos : Pos}
theorem IxR.or {r r' : R2} (h : IxR X r) (h' : IxR X r') : IxR X (fun x y H Q => r x y H Q ∨ r' x y H Q) := by
  intro value slice pins s σ H x y v u Q I rx ry q hs
  rcases q with q | q
  · exact h value slice pins s σ H x y v u Q I rx ry q hs
  · exact h' value slice pins s σ H x y v u Q I rx ry q hs
theorem MtR.or {id : String} {r r' : V → List V → Hp → VK → Prop} (h : MtR X id r) (h' : MtR X id r') : MtR X id (fun x xs H Q => r x xs H Q ∨ r' x xs H Q) := by
  intro pins s σ H x xs v us Q I rx rs q
  rcases q with q | q
  · exact h pins s σ H x xs v us Q I rx rs q
  · exact h' pins s σ H x xs v us Q I rx rs q
theorem pe_ix {r : R2} (hr : IxR X r) (ha : PE X a ta) (hb : PE X b tb) (hs : PlainIx b) : PE X (.Subscript a b pos) (tOp r ta tb) := by
  intro pins s σ H Q I h
  exact Subscript_ (binT ha hb I h fun v u s2 x y H2 I2 rx ry q => hr a b pins s2 σ H2 x y v u Q I2 rx ry q (hs _ _))

def rIxL (K : PySem.W.Frag) : R2 := fun x y H Q => ∃ p xs i v, x = .ref p ∧ y = .int i ∧ SqL K H p xs ∧ atI xs i = some v ∧ Q v H
def rIxT (K : PySem.W.Frag) : R2 := fun x y H Q => ∃ p xs i v, x = .ref p ∧ y = .int i ∧ SqT K H p xs ∧ atI xs i = some v ∧ Q v H
def rIxS : R2 := fun x y H Q => ∃ z i c, x = .str z ∧ y = .int i ∧ z.length ≤ sizeLine ∧ atI z.cps.toList i = some c ∧ Q (.str ⟨#[c]⟩) H
theorem ix_list : IxR X (rIxL X.K) := by
  intro value slice pins s σ H x y v u Q I rx ry h hs
  obtain ⟨p, xs, i, z, rfl, rfl, hq, he, q⟩ := h
  cases rx
  obtain ⟨t, rfl⟩ := ry
  obtain ⟨its, r, pl, hz⟩ := I.list hq
  obtain ⟨j, h1, h2, h3, h4, h5⟩ := atI_get he
  obtain ⟨w, ew, rw'⟩ := r.get h2
  have hl := r.length
  have hn := line63
  have fin : EP X pins σ Q w s := ⟨z, H, I, rw', q⟩
  by_cases h0 : 0 ≤ i
  · have hj : i.toNat = j := by
      rw [seqIndex_of h0 h5] at h1
      exact Option.some.inj h1
    exact item_listR pl.isList h0 (by omega) (by rw [hj]; simpa using ew) fin hs
  · have hj : (i + (its.toArray.size : Int)).toNat = j := by
      rw [seqIndex_neg (by omega) h4] at h1
      rw [List.size_toArray, ← hl]
      exact Option.some.inj h1
    exact subscriptTail_builtinR (x := w) pl.isList.typeIs slot_list_getitem.lookup
      (wpAny_getItem_list_neg (Q := fun r s' => r = w ∧ EP X pins σ Q r s') pl.isList (by omega) (by rw [List.size_toArray] <;> omega) (by omega) (by rw [hj]; simpa using ew) ⟨rfl, fin⟩) hs
theorem ix_tup : IxR X (rIxT X.K) := by
  intro value slice pins s σ H x y v u Q I rx ry h hs
  obtain ⟨p, xs, i, z, rfl, rfl, hq, he, q⟩ := h
  cases rx
  obtain ⟨t, rfl⟩ := ry
  obtain ⟨its, r, pl, hz⟩ := I.tuple hq
  obtain ⟨j, h1, h2, h3, h4, h5⟩ := atI_get he
  obtain ⟨w, ew, rw'⟩ := r.get h2
  have hl := r.length
  have hn := line63
  have fin : EP X pins σ Q w s := ⟨z, H, I, rw', q⟩
  exact subscriptTail_builtinR (x := w) pl.typeIs slot_tuple_getitem.lookup
    (getItem_tuple (j := j) (Q := fun r s' => r = w ∧ EP X pins σ Q r s') pl (by omega) (by omega) (by rw [List.size_toArray, ← hl]; exact h1) (by simpa using ew) ⟨rfl, fin⟩) hs
theorem ix_str : IxR X rIxS := by
  intro value slice pins s σ H x y v u Q I rx ry h hs
  obtain ⟨z, i, c, rfl, rfl, hz, he, q⟩ := h
  obtain ⟨t, rfl⟩ := rx
  obtain ⟨t', rfl⟩ := ry
  obtain ⟨j, h1, h2, h3, h4, h5⟩ := atI_get he
  have hl : z.cps.toList.length = z.length := by simp [Str.length]
  rw [hl] at h1 h4 h5
  have hn := line63
  exact tail_any (typeIs_str s z t) slot_str_getitem.lookup (getItem_str (c := c) (by
    have e1 : decide (i < -(2 ^ 63 : Int)) = false := decide_eq_false (by omega)
    have e2 : decide (i ≥ 2 ^ 63) = false := decide_eq_false (by omega)
    rw [e1, e2, Bool.or_false]) (by rw [h1]; simpa using h2) ⟨.str ⟨#[c]⟩, H, I.tok _, ⟨_, rfl⟩, q⟩) hs
def rIx (K : PySem.W.Frag) : R2 := fun x y H Q => rIxL K x y H Q ∨ rIxT K x y H Q ∨ rIxS x y H Q
theorem ix_seq : IxR X (rIx X.K) := ix_list.or (ix_tup.or ix_str)

theorem Inv.lst {pins : List (Addr × Obj)} {σ : St} {H : Hp} {s : Shared} {p : Addr} {xs : List V} (I : Inv X pins σ H s) (h : H p = some (.lst xs)) :
    ∃ (its : List Value) (n : Nat), Vals xs its ∧ s.heap.get? p = some { cls := .type "list", data := .seq its.toArray n } ∧ xs.length ≤ sizeLine := by
  obtain ⟨z, its, n, r, e⟩ := I.hok p _ h
  exact ⟨its, n, r, e, z⟩
theorem slice_bounds (lo hi : Option Int) (n : Nat) : (sliceBounds lo hi none n).1 = ((HT.sIx n 0 lo : Nat) : Int) ∧ (sliceBounds lo hi none n).2.1 = ((HT.sIx n n hi : Nat) : Int) ∧ (sliceBounds lo hi none n).2.2 = 1 := by
  refine ⟨?_, ?_, rfl⟩
  · cases lo with
    | none => simp [sliceBounds, HT.sIx]
    | some i =>
      simp only [sliceBounds, HT.sIx, Option.getD_none, show (1 : Int) > 0 by decide, if_true]
      by_cases h : i < 0
      · simp only [h, if_true] <;> omega
      · simp only [h, if_false] <;> omega
  · cases hi with
    | none => simp [sliceBounds, HT.sIx]
    | some i =>
      simp only [sliceBounds, HT.sIx, Option.getD_none, show (1 : Int) > 0 by decide, if_true]
      by_cases h : i < 0
      · simp only [h, if_true] <;> omega
      · simp only [h, if_false] <;> omega
theorem slicePick_cut (its : List Value) (lo hi : Option Int) : slicePick its.toArray lo hi none = ((its.drop (HT.sIx its.length 0 lo)).take (HT.sIx its.length its.length hi - HT.sIx its.length 0 lo)).toArray := by
  obtain ⟨h1, h2, h3⟩ := slice_bounds lo hi its.toArray.size
  unfold slicePick
  rw [h1, h2, h3]
  simp only [sliceRange_one, pick_run, List.size_toArray] <;> rfl
def rSlL (K : PySem.W.Frag) : V → Option Int → Option Int → Hp → VK → Prop := fun x lo hi H Q => ∃ a xs, x = .ref a ∧ SqL K H a xs ∧ ∀ p, H p = none → Q (.ref p) (upd H p (.lst (cutV xs lo hi)))
theorem sl_list : SlR X (rSlL X.K) := by
  intro pins s σ H x v vl vu lo hi sl Q I rx hs pl pu h
  obtain ⟨a, xs, rfl, hx, q⟩ := h
  cases rx
  obtain ⟨its, r, ht, hz⟩ := I.list hx
  have hlen := r.length
  refine ⟨"list", _, slot_list_getitem.lookup, ht.isList.typeIs, ?_⟩
  refine wpAny_getItem_list_slice ht.isList hs pl pu .none (by simp) ?_ (by rw [List.size_toArray] <;> omega)
  rw [slicePick_cut, ← hlen]
  refine ⟨.ref s.heap.objs.size, _, I.laid (t' := s.toks) (o := .lst (cutV xs lo hi)) (fun b ob q => Heap.get?_push_of_some _ q) (Nat.le_refl _) ?_, rfl, q _ (I.hok.fresh (Nat.le_refl _))⟩
  exact ⟨Nat.le_trans (cutV_length xs lo hi) hz, _, 0, (r.drop (HT.sIx xs.length 0 lo)).take (HT.sIx xs.length xs.length hi - HT.sIx xs.length 0 lo), Heap.get?_push_size _ rfl⟩

def flatV : V → Bool
  | .non => true
  | .bl _ => true
  | .int _ => true
  | .str _ => true
  | _ => false
def eqV : V → V → Bool
  | .non, .non => true
  | .bl a, .bl b => a == b
  | .bl a, .int b => (if a then 1 else 0) == b
  | .int a, .bl b => a == (if b then 1 else 0)
  | .int a, .int b => a == b
  | .str a, .str b => a == b
  | _, _ => false
theorem eqAt_V {A : Around} {s : Shared} {y x : V} {u v : Value} (ry : RelV y u) (rx : RelV x v) (fy : flatV y = true) (fx : flatV x = true) : SeqAt.EqAt A s u v (eqV y x) := by
  cases y with
  | non =>
    cases ry
    cases x with
    | non => cases rx; exact SeqAt.EqAt.same _
    | bl b => cases rx; exact SeqAt.EqAt.none_bool b
    | int b => obtain ⟨t, rfl⟩ := rx; exact SeqAt.EqAt.none_int b t
    | str b => obtain ⟨t, rfl⟩ := rx; exact SeqAt.EqAt.none_str b t
    | _ => exact absurd (show false = true from fx) Bool.false_ne_true
  | bl a =>
    cases ry
    cases x with
    | non => cases rx; exact SeqAt.EqAt.bool_none a
    | bl b => cases rx; exact SeqAt.EqAt.bool_bool a b
    | int b => obtain ⟨t, rfl⟩ := rx; exact SeqAt.EqAt.bool_int a b t
    | str b => obtain ⟨t, rfl⟩ := rx; exact SeqAt.EqAt.bool_str a b t
    | _ => exact absurd (show false = true from fx) Bool.false_ne_true
  | int a =>
    obtain ⟨t', rfl⟩ := ry
    cases x with
    | non => cases rx; exact SeqAt.EqAt.int_none a t'
    | bl b => cases rx; exact SeqAt.EqAt.int_bool a t' b
    | int b => obtain ⟨t, rfl⟩ := rx; exact SeqAt.EqAt.int_int a t' b t
    | str b => obtain ⟨t, rfl⟩ := rx; exact SeqAt.EqAt.int_str a t' b t
    | _ => exact absurd (show false = true from fx) Bool.false_ne_true
  | str a =>
    obtain ⟨t', rfl⟩ := ry
    cases x with
    | non => cases rx; exact SeqAt.EqAt.str_none a t'
    | bl b => cases rx; exact SeqAt.EqAt.str_bool a t' b
    | int b => obtain ⟨t, rfl⟩ := rx; exact SeqAt.EqAt.str_int a t' b t
    | str b => obtain ⟨t, rfl⟩ := rx; exact SeqAt.EqAt.str_str a t' b t
    | _ => exact absurd (show false = true from fx) Bool.false_ne_true
  | _ => exact absurd (show false = true from fy) Bool.false_ne_true
def eqU (x : V) (u : Value) : Bool := match u with
  | .none => eqV .non x
  | .bool b => eqV (.bl b) x
  | .int i _ => eqV (.int i) x
  | .str z _ => eqV (.str z) x
  | _ => false
theorem eqU_of {x y : V} {u : Value} (r : RelV y u) (f : flatV y = true) : eqU x u = eqV y x := by
  cases y with
  | non => cases r; rfl
  | bl b => cases r; rfl
  | int i => obtain ⟨t, rfl⟩ := r; rfl
  | str z => obtain ⟨t, rfl⟩ := r; rfl
  | _ => exact absurd (show false = true from f) Bool.false_ne_true
theorem any_eqU {x : V} : ∀ {xs : List V} {us : List Value}, Vals xs us → xs.all flatV = true → us.any (eqU x) = xs.any fun y => eqV y x
  | _, _, .nil, _ => rfl
  | y :: xs, u :: us, .cons r t, f => by
    rw [List.all_cons, Bool.and_eq_true] at f
    rw [List.any_cons, List.any_cons, eqU_of r f.1, any_eqU t f.2]
theorem mem_eqAt {A : Around} {s : Shared} {x : V} {v : Value} (rx : RelV x v) (fx : flatV x = true) : ∀ {xs : List V} {us : List Value}, Vals xs us → xs.all flatV = true → ∀ u ∈ us, SeqAt.EqAt A s u v (eqU x u)
  | _, _, .nil, _ => fun u hu => by cases hu
  | y :: xs, u :: us, .cons r t, f => fun u' hu => by
    rw [List.all_cons, Bool.and_eq_true] at f
    rcases List.mem_cons.mp hu with rfl | hu
    · rw [eqU_of r f.1]; exact eqAt_V r rx f.1 fx
    · exact mem_eqAt rx fx t f.2 u' hu
def inV (x : V) (xs : List V) : Bool := xs.any fun y => eqV y x
def rIn (K : PySem.W.Frag) (neg : Bool) : R2 := fun x y H Q => ∃ p xs, y = .ref p ∧ (SqL K H p xs ∨ SqT K H p xs) ∧ flatV x = true ∧ xs.all flatV = true ∧ Q (.bl (if neg then !inV x xs else inV x xs)) H
theorem op_in_seq : OpR X (compareOp .In) (rIn X.K false) := by
  intro pins s σ H x y v u Q I rx ry h
  obtain ⟨p, xs, rfl, hq, fx, fs, q⟩ := h
  cases ry
  rcases hq with hq | hq
  · obtain ⟨its, r, pl, hz⟩ := I.list hq
    refine SeqAt.in_listAt (eqU x) pl.isList (fun w hw => mem_eqAt rx fx r fs w (by simpa using hw)) ⟨.bl _, H, I, rfl, ?_⟩
    rw [show its.toArray.any (eqU x) = its.any (eqU x) by simp, any_eqU r fs]
    exact q
  · obtain ⟨its, r, pl, hz⟩ := I.tuple hq
    refine SeqAt.in_tupleAt (eqU x) pl (fun w hw => mem_eqAt rx fx r fs w (by simpa using hw)) ⟨.bl _, H, I, rfl, ?_⟩
    rw [show its.toArray.any (eqU x) = its.any (eqU x) by simp, any_eqU r fs]
    exact q
theorem call_len_seq : CallR X (.builtin "len") (fun xs H Q => ∃ p ys, xs = [.ref p] ∧ (SqL X.K H p ys ∨ SqT X.K H p ys) ∧ Q (.int ys.length) H) := by
  intro pins s σ H xs us Q I r h
  obtain ⟨p, ys, rfl, hq, q⟩ := h
  obtain ⟨u, rfl, rx⟩ := vals1 r
  cases rx
  have hn := line63
  rcases hq with hq | hq
  · obtain ⟨its, r', pl, hz⟩ := I.list hq
    have hlen := r'.length
    exact Calls.call_len_list pl.isList (by simp only [List.size_toArray] <;> omega) ⟨.int ys.length, H, I.tok _, ⟨s.toks + 1, by rw [List.size_toArray, hlen]⟩, q⟩
  · obtain ⟨its, r', pl, hz⟩ := I.tuple hq
    have hlen := r'.length
    exact len_tuple pl (by simp only [List.size_toArray] <;> omega) ⟨.int ys.length, H, I.tok _, ⟨s.toks + 1, by rw [List.size_toArray, hlen]⟩, q⟩
theorem CallR.or {f : Value} {r r' : List V → Hp → VK → Prop} (h : CallR X f r) (h' : CallR X f r') : CallR X f (fun xs H Q => r xs H Q ∨ r' xs H Q) := by
  intro pins s σ H xs us Q I rs q
  rcases q with q | q
  · exact h pins s σ H xs us Q I rs q
  · exact h' pins s σ H xs us Q I rs q
theorem call_list_of : CallR X (.type "list") (fun xs H Q => ∃ p ys, xs = [.ref p] ∧ (SqL X.K H p ys ∨ SqT X.K H p ys) ∧ ∀ l, H l = none → Q (.ref l) (upd H l (.lst ys))) := by
  intro pins s σ H xs us Q I r h
  obtain ⟨p, ys, rfl, hq, q⟩ := h
  obtain ⟨u, rfl, rx⟩ := vals1 r
  cases rx
  have fin : ∀ (its : List Value), Vals ys its → ys.length ≤ sizeLine → ∀ (h' : Heap) (c' : Nat), (∀ b o', s.heap.get? b = some o' → h'.get? b = some o') →
      h'.get? s.heap.objs.size = some { cls := .type "list", dict := none, data := .seq its.toArray c', slots := #[] } → EP X pins σ Q (.ref s.heap.objs.size) { s with heap := h' } := fun its r' hz h' c' kp e =>
    ⟨.ref s.heap.objs.size, _, I.laid (t' := s.toks) kp (Nat.le_refl _) (show ObjOk X.prog X.w _ h' _ (.lst ys) from ⟨hz, its, c', r', e⟩), rfl, q _ (I.hok.fresh (Nat.le_refl _))⟩
  rcases hq with hq | hq
  · obtain ⟨its, r', pl, hz⟩ := I.list hq
    have hlen := r'.length
    obtain ⟨o, ho, hc, n, hd⟩ := pl.isList
    exact call_list_seq p (.inl rfl) ho hc hd (fun h' c' kp e => fin its r' hz h' c' kp e) (by simp only [List.size_toArray] <;> omega)
  · obtain ⟨its, r', pl, hz⟩ := I.tuple hq
    have hlen := r'.length
    obtain ⟨o, ho, hc, n, hd⟩ := pl
    exact call_list_seq p (.inr rfl) ho hc hd (fun h' c' kp e => fin its r' hz h' c' kp e) (by simp only [List.size_toArray] <;> omega)
def tyV (K : PySem.W.Frag) (T : String) (x : V) (H : Hp) : Prop := match x with
  | .str _ => T = "str"
  | .int _ => T = "int"
  | .ref p => (T = "list" ∧ ∃ xs, SqL K H p xs) ∨ (T = "tuple" ∧ ∃ o, K.lookup p = some o ∧ o.cls = .type "tuple" ∧ o.dict = none) ∨
      (T = "dict" ∧ ((∃ kvs, H p = some (.dK kvs)) ∨ ∃ kvs, H p = some (.dT kvs))) ∨ (T = "set" ∧ ∃ S n, H p = some (.set S n))
  | _ => False
theorem tyV_is {pins : List (Addr × Obj)} {σ : St} {H : Hp} {s : Shared} {T : String} {x : V} {v : Value} (I : Inv X pins σ H s) (r : RelV x v) (ty : tyV X.K T x H) :
    s.TypeIs v T ∧ ∀ a, v = .ref a → ∃ ob, s.heap.get? a = some ob ∧ ob.dict = none := by
  cases x with
  | str z =>
    obtain ⟨t, rfl⟩ := r
    cases (show T = "str" from ty)
    exact ⟨typeIs_str s z t, fun _ e => nomatch e⟩
  | int i =>
    obtain ⟨t, rfl⟩ := r
    cases (show T = "int" from ty)
    exact ⟨typeIs_int s i t, fun _ e => nomatch e⟩
  | ref p =>
    cases r
    rcases ty with ⟨rfl, xs, hq⟩ | ⟨rfl, o, hk, hc, hd⟩ | ⟨rfl, hk⟩ | ⟨rfl, S, n, hk⟩
    · obtain ⟨its, _, pl, _⟩ := I.list hq
      refine ⟨pl.isList.typeIs, fun a e => ?_⟩
      cases e
      obtain ⟨o, n, e, c, hd, _⟩ := pl
      exact ⟨o, e, hd⟩
    · refine ⟨⟨o, I.kIn p o hk, hc⟩, fun a e => ?_⟩
      cases e
      exact ⟨o, I.kIn _ o hk, hd⟩
    · have z : ∃ o, s.heap.get? p = some o ∧ o.ExactDict := by
        rcases hk with ⟨kvs, hk⟩ | ⟨kvs, hk⟩
        · obtain ⟨_, _, _, _, o, _, _, e, ex, _⟩ := I.hok p _ hk
          exact ⟨o, e, ex⟩
        · obtain ⟨_, _, _, _, o, _, _, e, ex, _⟩ := I.hok p _ hk
          exact ⟨o, e, ex⟩
      obtain ⟨o, e, ex⟩ := z
      refine ⟨⟨o, e, ex.1⟩, fun a e2 => ?_⟩
      cases e2
      exact ⟨o, e, ex.2.1⟩
    · obtain ⟨o, _, _, _, e, ex, _⟩ := I.hok p _ hk
      refine ⟨⟨o, e, ex.1⟩, fun a e2 => ?_⟩
      cases e2
      exact ⟨o, e, ex.2.1⟩
  | _ => exact False.elim ty
def tBM (K : PySem.W.Frag) (T : String) (r : V → List V → Hp → VK → Prop) (to : TE) (t : TA) : TE := fun σ H Q => to σ H fun x H1 => tyV K T x H1 ∧ t σ H1 fun xs H2 => r x xs H2 Q
variable {o e : Expr} {es : List Expr} {to : TE} {t : TA} {name : Str} {apos cpos : Pos} {T id : String} {r : V → List V → Hp → VK → Prop}
theorem pe_bm (pa : PlainAttrs T) (slot : Slot T name id) (hty : typeOf (.builtin id) = pure (.type "method_descriptor")) (hm : MtR X id r) (ho : PE X o to) (ha : PA X (e :: es) t)
    (hbase : attributeBase o name X.env (eval o X.env) = eval o X.env := by rfl)
    (hfew : ((backTo cpos (starEach (e :: es) X.env)).all (fun x => !x.1) && (backToKw cpos (keywordEach [] X.env)).all (fun x => x.1.isSome)
      && decide ((e :: es).length + ([] : List Keyword).length + (if ([] : List Keyword).isEmpty then 0 else 1) < 30)) = true := by rfl)
    (hline : (apos.endLine == cpos.line) = true := by rfl) (hs : starEach (e :: es) X.env = (false, eval e X.env) :: starEach es X.env := by rfl) (hplain : (backTo cpos (starEach es X.env)).any (·.1) = false := by rfl) :
    PE X (.Call (.Attribute o name apos) (e :: es) [] cpos) (tBM X.K T r to t) := by
  intro pins s σ H Q I h
  refine wpAny_Call_method_late hbase hfew hline rfl (thn (ho pins s σ H _ I h) fun v s1 ⟨x, H1, I1, r1, ty, q1⟩ => ?_)
  obtain ⟨h1, h2⟩ := tyV_is I1 r1 ty
  refine ⟨T, id, pa, slot, hty, h1, h2, ?_⟩
  have hA := ha cpos pins s1 σ H1 _ I1 q1
  rw [hs] at hA ⊢
  refine Calls.callWith_builtin (by show (false || (backTo cpos (starEach es X.env)).any (·.1)) = false; rw [hplain] <;> rfl) (Calls.evalArgs_plain ?_)
  exact thn hA fun us s2 ⟨vs, H2, I2, r2, q2⟩ => hm pins s2 σ H2 x vs v us Q I2 r1 r2 q2
end
end L2

namespace L2
open PySem PySem.Spec PyProof.Rows

def MtM (X : Cx) (id : String) (r : V → List V → Hp → VK → Prop) : Prop :=
  ∀ (pins : List (Addr × Obj)) (s : Shared) (σ : St) (H : Hp) (x : V) (xs : List V) (v : Value) (us : List Value) (Q : VK), Inv X pins σ H s → RelV x v → Vals xs us → r x xs H Q →
    wpAny (model X.prog X.w) X.A (call (.builtin id) (v :: us)) (EP X pins σ Q) X.xe s

theorem Vals.one : ∀ {x : V} {us : List Value}, Vals [x] us → ∃ u, us = [u] ∧ RelV x u
  | _, _, .cons r .nil => ⟨_, rfl, r⟩
theorem Vals.two : ∀ {x y : V} {us : List Value}, Vals [x, y] us → ∃ u v, us = [u, v] ∧ RelV x u ∧ RelV y v
  | _, _, _, .cons r (.cons q .nil) => ⟨_, _, rfl, r, q⟩
theorem Vals.zero : ∀ {us : List Value}, Vals [] us → us = []
  | _, .nil => rfl
theorem Vals.reverse {xs : List V} {us : List Value} (h : Vals xs us) : Vals xs.reverse us.reverse := by
  induction h with
  | nil => exact .nil
  | cons r t ih => rw [List.reverse_cons, List.reverse_cons]; exact Vals.append ih (.cons r .nil)
section
variable {X : Cx} {pins : List (Addr × Obj)} {σ : St} {H : Hp} {s : Shared} {l b : Addr} {xs ys zs : List V}

theorem Inv.lset {its its' : List Value} {n : Nat} {f : Array Value → Array Value} {t' : Nat} (I : Inv X pins σ H s) (hH : H l = some (.lst xs))
    (e : s.heap.get? l = some { cls := .type "list", data := .seq its.toArray n }) (hf : f its.toArray = its'.toArray) (hv : Vals ys its') (hz : ys.length ≤ sizeLine) :
    Inv X pins σ (upd H l (.lst ys)) { s with heap := s.heap.update l (Obj.mapSeq f), toks := t' } := by
  have q := PySem.IsL.update e f
  rw [hf] at q
  refine I.write (x := l) (e := l) (by rw [hH]; exact trivial) (.inl rfl) (fun b' u hb hu => (Heap.get?_update_other s.heap (Obj.mapSeq f) (Ne.symm hb)).trans hu) ⟨_, q⟩ ?_
  exact ⟨hz, its', _, hv, q⟩
theorem Inv.lnew {its : List Value} {t' : Nat} (I : Inv X pins σ H s) (hv : Vals ys its) (hz : ys.length ≤ sizeLine) :
    Inv X pins σ (upd H s.heap.objs.size (.lst ys)) { s with heap := s.heap.push { cls := .type "list", data := .seq its.toArray }, toks := t' } :=
  I.laid (fun _ _ q => Heap.get?_push_of_some _ q) (Nat.le_refl _) ⟨hz, its, 0, hv, Heap.get?_push_size _ rfl⟩
theorem Inv.fresh (I : Inv X pins σ H s) : H s.heap.objs.size = none := I.hok.fresh (Nat.le_refl _)
theorem Inv.lstM (I : Inv X pins σ H s) (hH : H l = some (.lst xs)) : xs.length ≤ sizeLine ∧ ∃ (its : List Value) (n : Nat), Vals xs its ∧ xs.length = its.length ∧ s.heap.get? l = some { cls := .type "list", data := .seq its.toArray n } := by
  obtain ⟨z, its, n, r, e⟩ := I.hok l _ hH
  exact ⟨z, its, n, r, r.length, e⟩

end

section
variable {X : Cx}

def rAppend : V → List V → Hp → VK → Prop := fun x vs H Q => ∃ l xs y, x = .ref l ∧ vs = [y] ∧ H l = some (.lst xs) ∧ xs.length < sizeLine ∧ Q .non (upd H l (.lst (xs ++ [y])))
theorem mt_append : MtM X "list.append" rAppend := by
  intro pins s σ H x vs v us Q I rx rv h
  obtain ⟨l, xs, y, rfl, rfl, hH, hz, q⟩ := h
  cases rx
  obtain ⟨u, rfl, ru⟩ := rv.one
  obtain ⟨z, its, n, r, hl, e⟩ := I.lstM hH
  refine call_meets F.slot_list_append ⟨_, e, rfl⟩ F.entry_list_append (F.args_list_append_2 _ _) (PySem.list_append l its.toArray n u (by rw [List.size_toArray]; omega)) ⟨e, ?_⟩
  refine ⟨.non, _, I.lset (its' := its ++ [u]) hH e (by simp) (r.append (.cons ru .nil)) ?_, rfl, q⟩
  rw [List.length_append, List.length_singleton]
  omega

def rCat : R2 := fun x y H Q => ∃ l b xs zs, x = .ref l ∧ y = .ref b ∧ H l = some (.lst xs) ∧ H b = some (.lst zs) ∧ xs.length + zs.length ≤ sizeLine ∧ ∀ p, H p = none → Q (.ref p) (upd H p (.lst (xs ++ zs)))
theorem op_cat : OpR X (binaryOp .Add) rCat := by
  intro pins s σ H x y v u Q I rx ry h
  obtain ⟨l, b, xs, zs, rfl, rfl, hH, hB, hz, q⟩ := h
  cases rx
  cases ry
  obtain ⟨z, its, n, r, hl, e⟩ := I.lstM hH
  obtain ⟨z2, its2, n2, r2, hl2, e2⟩ := I.lstM hB
  refine PySem.P.add_list e e2 ?_ (by rw [List.size_toArray, List.size_toArray]; omega)
  have ea : its.toArray ++ its2.toArray = (its ++ its2).toArray := by simp
  rw [ea]
  exact ⟨.ref _, _, I.lnew (t' := s.toks) (r.append r2) (by rw [List.length_append]; omega), rfl, q _ I.fresh⟩
end

section
variable {prog : Program} {w : World} {A : Around} {E : Value → Shared → Prop} {s : Shared}
set_option maxRecDepth 100000 in
end

section
variable {X : Cx}
end
end L2

namespace Att
open PySem PySem.W PySem.Calls PyProof.Rows

theorem ints_of_wellAll {P : Params} {h : Heap} : ∀ (ns : List Int) (vs : List Value), WellAll P h vs (ns.map WData.int) → IntsAre vs ns := by
  intro ns
  induction ns with
  | nil =>
    intro vs w
    rw [List.map_nil] at w
    cases w
    exact .nil
  | cons n ns ih =>
    intro vs w
    rw [List.map_cons] at w
    cases w with
    | cons a b =>
      cases a
      exact .cons _ _ (ih _ b)

theorem script_of {l : OpenLaw} {n : Nat} (hn : l.most = some n) {P : Params} {h : Heap} {args : List WData} {vals : List Value}
    (hpre : l.row.toRowW.claim.pre args = true) (hwl : WellAll P h vals args) :
    ∃ a vs ns, vals = [Value.ref a] ∧ args = [WData.list (ns.map WData.int)] ∧ h.get? a = some { cls := .type "list", data := .seq vs.toArray } ∧ IntsAre vs ns ∧ ns.length ≤ n := by
  have hsh : WShape.hasAll [] args [.list .int] = true := (pre_splitW hpre).1
  have hc : l.pre.holds [] { args := args } = true := (pre_splitW hpre).2
  obtain ⟨d, r, rfl, h1, h2⟩ := hasAllW_cons hsh
  obtain rfl := hasAllW_nil h2
  obtain ⟨xs, rfl, h3⟩ := hasW_list h1
  obtain ⟨ns, rfl⟩ := items_int h3
  have hlen : ns.length ≤ n := by
    unfold OpenLaw.pre at hc
    have h4 : (WTm.not (.lt (.lit (.int (n : Int))) (.len (.arg 0)))).holds [] { args := [.list (ns.map .int)] } = true := by
      have h4 := (holds_andW hc).1
      rw [hn] at h4
      exact h4
    have h5 := condW_of h4 (w_not (w_lt w_lit (w_len_list (w_arg rfl))))
    rw [List.length_map] at h5
    refine Nat.le_of_not_lt fun q => ?_
    have q' : (n : Int) < ((ns.length : Nat) : Int) := by omega
    first
      | (rw [decide_eq_true q'] at h5; exact absurd h5 (by decide))
      | (simp at h5; omega)
  cases hwl with
  | cons w1 w2 =>
    cases w2
    cases w1 with
    | list ho hall => exact ⟨_, _, ns, rfl, rfl, ho, ints_of_wellAll ns _ hall, hlen⟩

theorem post_true (l : OpenLaw) (args : List WData) : l.row.toRowW.claim.post args (.bool true) args = true :=
  postW_of (r := l.row.toRowW) (X := (true == true))
    (show WShape.has [] (.bool true) .bool = true by first | rfl | decide | simp [WShape.has, WShape.arms, WShape.armsAll])
    (show (WTm.eq .res (.lit (.bool true))).value [] { args := args, res := some (.bool true), after := args } = some (.bool (true == true)) from w_eq_bool (w_res rfl) w_lit) rfl

theorem attach_call {l : OpenLaw} {n : Nat} {q : Program} {loose : List Str} {XP : (Str → Option Value) → Heap → Prop} {YP : World → Heap → Prop} {d : DefRec}
    (hn : l.most = some n) (hdf : d.params.defaults = [])
    (call : ∀ (w : World) (s₀ s₁ : Shared) (mg mb : Str → Option Value) (fa : Addr) (o : Obj) (pm cd doc : Value) (a : Addr) (vs : List Value) (ns : List Int),
      Ground q loose [] XP w s₀ mg mb s₁.heap → YP w s₁.heap →
      s₁.heap.get? fa = some o → o.data = .func (docDef d.name d.params d.body d.scope pm cd doc) → s₁.heap.CodeRec cd d.name → mg d.name = some (.ref fa) →
      s₁.heap.get? a = some { cls := .type "list", data := .seq vs.toArray } → IntsAre vs ns → ns.length ≤ n → s₁.gens = #[] →
      codeAny (model l.prog w) callerA (.call (.ref fa) ⟨[.ref a], []⟩) (fun r s' => r = .ok (.ret (.bool true)) ∧ OldK s₁.heap s'.heap ∧ s'.os = s₁.os ∧ AllBare s'.gens) s₁) :
    WalkO q loose XP YP l.row.toRowW d [] (fun f vs => PySem.call f vs) := by
  intro w s₀ s₁ mg mb G Y fa o pm cd doc dV kV ho hd hcd hD hmg hg args vals as hpre hlay hrd hwl hlo
  obtain rfl : dV = .none := Dflts.none hD hdf
  obtain rfl : kV = .none := Dflts.noKw hD
  obtain ⟨a, vs, ns, rfl, rfl, hobj, hints, hlen⟩ := script_of hn hpre hwl
  refine enter_call (codeAny_mono (call w s₀ s₁ mg mb fa o pm cd doc a vs ns G Y ho (fd_plain hd) hcd hmg hobj hints hlen hg) fun r s' hq => ?_)
  obtain ⟨rfl, h2, h3, h4⟩ := hq
  exact ⟨.inl ⟨.bool true, .bool true, [], rfl, fun _ => rfl, .bool true, post_true l _, fun _ => ⟨List.Pairwise.nil, fun _ hm => (nomatch hm)⟩⟩, h2, h3, h4⟩

section
variable {prog : Program} {w : World} {A : Around} {E : Value → Shared → Prop} {s : Shared} {K : Frag}

end
end Att

namespace L2
open PySem PySem.Spec PyProof.Rows

theorem vals_ints : ∀ {vs : List Value} {ns : List Int}, IntsAre vs ns → Vals (ns.map V.int) vs
  | _, _, .nil => .nil
  | _, _, .cons n t h => .cons ⟨t, rfl⟩ (vals_ints h)

def Only (H : Hp) : Prop := ∀ b, H b = none ∨ ∃ o xs, H b = some (.frz o (.lst xs))

theorem law_call {P : Program} {w : World} {K : PySem.W.Frag} {mg mb : Str → Option Value} {CX : CXT} {k : Nat} {fa a : Addr} {fd : FuncData} {x : Str} {sp : Sp} {s₁ : Shared} {vs : List Value} {ns : List Int}
    (KX : K.In s₁.heap) (hns : s₁.heap.Ns mainGlobals mg) (hb : s₁.heap.Ns builtinsNs mb) (hbb : ∀ x : Str, x ≠ "__name__" → mb x = bootBuiltins x) (hlim : s₁.heap.NoLimit) (hg : s₁.gens = #[])
    (ha : s₁.heap.get? a = some { cls := .type "list", data := .seq vs.toArray }) (hi : IntsAre vs ns) (hl : ns.length ≤ sizeLine) (hr : Room k callerA)
    (F : ∀ base : Heap, K.In base → base.Ns mainGlobals mg → FnOk P w K mg base CX k fa fd [x] sp) (hbind : ∀ (s : Shared) (u : Value), BindsTo s fd ⟨[u], []⟩ [(x, u)])
    (hsp : ∀ H : Hp, Only H → SqL K H a (ns.map V.int) → sp [.ref a] H (fun v _ => v = .bl true) fun _ _ _ => False)
    (hCX : ∀ H e s', CX [] H s₁ (fun _ _ _ => False) e s' → False) :
    codeAny (model P w) callerA (.call (.ref fa) ⟨[.ref a], []⟩) (fun r s' => r = .ok (.ret (.bool true)) ∧ OldK s₁.heap s'.heap ∧ s'.os = s₁.os ∧ AllBare s'.gens) s₁ := by
  have rv := vals_ints hi
  have lenV := hi.length
  -- from an abstract heap in which nothing but the script may be tracked
  have core : ∀ H : Hp, Only H → SqL K H a (ns.map V.int) → HOk P w H s₁.heap → (∀ b, H b ≠ none → b = a) → (H a ≠ none → K.lookup a = none) →
      codeAny (model P w) callerA (.call (.ref fa) ⟨[.ref a], []⟩) (fun r s' => r = .ok (.ret (.bool true)) ∧ OldK s₁.heap s'.heap ∧ s'.os = s₁.os ∧ AllBare s'.gens) s₁ := by
    intro H hO hS hok hA hK
    have base_of : ∀ {b : Addr} {o : Obj}, s₁.heap.get? b = some o → H b = none → (hidT s₁.heap H).get? b = some o := fun e n => hidT_get e n
    have noA : ∀ {b : Addr} {o : Obj} {es : Array DictEntry} {ep : Nat}, s₁.heap.get? b = some o → o.data = .dict es ep → H b = none := fun {b o es ep} e d => by
      cases q : H b with
      | none => rfl
      | some u =>
        have e' : b = a := hA b (by rw [q]; simp)
        subst e'
        rw [ha] at e; cases e
        have d' : Data.seq vs.toArray _ = Data.dict es ep := d
        cases d'
    have nsK : ∀ {b : Addr} {m : Str → Option Value}, s₁.heap.Ns b m → (hidT s₁.heap H).Ns b m := fun {b m} ⟨o, es, ep, e, d, r⟩ => ⟨o, es, ep, base_of e (noA e d), d, r⟩
    have hKb : K.In (hidT s₁.heap H) := fun b o e => base_of (KX b o e) (by
      cases q : H b with
      | none => rfl
      | some u =>
        have e' : b = a := hA b (by rw [q]; simp)
        subst e'
        rw [hK (by rw [q]; simp)] at e; cases e)
    have hM : Mod K mg (hidT s₁.heap H) := ⟨hKb, nsK hns, ⟨mb, nsK hb, hbb⟩, let ⟨mc, h1, h2⟩ := hlim; ⟨mc, nsK h1, h2⟩⟩
    have e0 : Env0 P w K mg (hidT s₁.heap H) callerA [] s₁ H := ⟨rfl, hM, fun b o e => of_hidT e, Nat.le_of_eq (hidT_size _ _), trivial, fun b hb => absurd (show b ∈ ([] : List Addr) from hb) (by simp), hok, .of_eq hg⟩
    refine codeAny_mono ((F _ hKb (nsK hns)).run callerA [] s₁ H ⟨[.ref a], []⟩ [.ref a] [.ref a] _ _ hr e0 (hbind s₁ (.ref a)) (.cons rfl .nil) (hsp H hO hS)) fun r s' h => ?_
    cases r with
    | error e => exact (hCX H e s' h).elim
    | ok fl =>
      cases fl with
      | next => exact False.elim h
      | brk => exact False.elim h
      | cont => exact False.elim h
      | ret u =>
        obtain ⟨v, H', os, bare, un, hok', r', q⟩ := h
        have q' : v = .bl true := q
        subst q'
        obtain rfl : u = Value.bool true := r'
        refine ⟨rfl, OldK.of_keep fun b o e => ?_, os, bare⟩
        cases q : H b with
        | none => exact un.keep b o e q (by intro z; exact absurd (show b ∈ ([] : List Addr) from z) (by simp)) (by simp)
        | some u =>
          rcases hO b with z | ⟨ob, xs, z⟩
          · rw [q] at z; cases z
          · have z2 := un.frzs b ob _ z
            obtain ⟨e1, _⟩ := hok b _ z
            obtain ⟨e2, _⟩ := hok' b _ z2
            rw [e] at e1; cases e1
            exact e2
  cases hk : K.lookup a with
  | some o =>
    -- the script is one of the module's own objects
    have e := KX a o hk
    rw [ha] at e
    cases e
    refine core (fun _ => none) (fun _ => .inl rfl) (.inr ⟨_, vs.toArray, _, hk, rfl, rfl, rfl, by rw [List.size_toArray, lenV]; exact hl, by simpa using rv⟩) (fun b u z => by have z' : (none : Option HO) = some u := z; cases z') (fun b z => absurd rfl z) fun z => absurd rfl z
  | none =>
    refine core (fun b => if b = a then some (.frz { cls := .type "list", data := .seq vs.toArray } (.lst (ns.map V.int))) else none) (fun b => ?_) (.inl (.inr ⟨{ cls := .type "list", data := .seq vs.toArray }, if_pos rfl⟩)) (fun b u z => ?_) (fun b z => ?_) fun _ => hk
    · by_cases hb : b = a
      · exact .inr ⟨_, _, if_pos hb⟩
      · exact .inl (if_neg hb)
    · by_cases hb : b = a
      · have z' := (if_pos hb).symm.trans z
        cases z'
        subst hb
        exact ⟨ha, by rw [List.length_map]; exact hl, vs, _, rv, ha⟩
      · have z' := (if_neg hb).symm.trans z
        cases z'
    · by_cases hb : b = a
      · exact hb
      · exact absurd (if_neg hb) z
end L2

namespace L2
open PySem PySem.Spec PyProof.Rows

theorem walk_of {l : PySem.W.OpenLaw} {n k : Nat} {q : Program} {loose : List Str} {XP : (Str → Option Value) → Heap → Prop} {YP : World → Heap → Prop} {d : DefRec} {K : Params → PySem.W.Frag} {CX : World → CXT} {sp : World → Sp} {x : Str}
    (hn : l.most = some n) (hn2 : n ≤ sizeLine) (hdf : d.params.defaults = []) (hr : Room k callerA)
    (hY : ∀ (w : World) (h : Heap), YP w h → (K w.params).In h)
    (F : ∀ (w : World) (mg : Str → Option Value) (fa : Addr) (h : Heap), (K w.params).In h → h.Ns mainGlobals mg → mg d.name = some (.ref fa) →
      ∃ fd : FuncData, (∀ (s : Shared) (u : Value), BindsTo s fd ⟨[u], []⟩ [(x, u)]) ∧
        ∀ base : Heap, (K w.params).In base → base.Ns mainGlobals mg → FnOk l.prog w (K w.params) mg base (CX w) k fa fd [x] (sp w))
    (hsp : ∀ (w : World) (H : Hp) (a : Addr) (ns : List Int), ns.length ≤ n → Only H → SqL (K w.params) H a (ns.map V.int) → sp w [.ref a] H (fun v _ => v = .bl true) fun _ _ _ => False)
    (hCX : ∀ (w : World) (H : Hp) (s : Shared) (e : Value) (s' : Shared), CX w [] H s (fun _ _ _ => False) e s' → False) :
    PySem.W.WalkO q loose XP YP l.row.toRowW d [] (fun f vs => PySem.call f vs) := by
  refine Att.attach_call hn hdf fun w s₀ s₁ mg mb fa o pm cd doc a vs ns G Y ho hd hcd hmg hobj hints hlen hg => ?_
  have KX := hY w _ Y
  obtain ⟨fd, hb, hF⟩ := F w mg fa _ KX G.T.g hmg
  exact law_call KX G.T.g G.T.b G.T.builtins G.T.nolimit hg hobj hints (Nat.le_trans hlen hn2) hr hF hb (fun H hO hS => hsp w H a ns hlen hO hS) fun H e s' => hCX w H s₁ e s'
end L2

namespace L2
open PySem PySem.Spec PyProof.Rows

def defArgs (s : Stmt) : Arguments := match s with
  | .FunctionDef _ a _ _ _ _ _ _ _ _ => a
  | _ => { posonlyargs := [], args := [], vararg := none, kwonlyargs := [], kw_defaults := [], kwarg := none, defaults := [] }
def defBody (s : Stmt) : List Stmt := match s with
  | .FunctionDef _ _ b _ _ _ _ _ _ _ => b
  | _ => []
def defScope (s : Stmt) : Scope := match s with
  | .FunctionDef _ _ _ _ _ _ sc _ _ _ => sc
  | _ => { kind := .function, names := [], isGenerator := false, isCoroutine := false }

abbrev CX0 : CXT := fun _ _ _ _ _ _ => False
abbrev E0 : XK := fun _ _ _ => False
theorem pass0 {X : Cx} : Passes CX0 X E0 := fun _ _ _ _ _ _ _ h => h.elim

structure Fun (K : PySem.W.Frag) (x qual : Str) (st : Stmt) (f : Addr) (fd : FuncData) : Prop where
  ex : ∃ (oc : Value) (od : Option Addr) (kV doc pm : Value) (an : Option Addr) (cdv ct : Value) (osl : Array (Option Value)),
    fd = PySem.W.fnOf x qual (defArgs st) (defBody st) (defScope st) .none kV doc pm an cdv ct ∧ K.lookup f = some ⟨oc, od, .func fd, osl⟩ ∧ PySem.W.codeIn K cdv qual = true
  kp : PySem.W.keepIn K (.ref f) = true
section
variable {P : Program} {w : World} {K : PySem.W.Frag} {mg : Str → Option Value} {base : Heap}
theorem Fun.ok {x qual : Str} {st : Stmt} {f : Addr} {fd : FuncData} {N ps : List Str} {k : Nat} {sp : Sp} (F : Fun K x qual st f fd) (S : FnScope N ps (defScope st)) (len : ∀ vs H Q E, sp vs H Q E → vs.length = ps.length)
    (hbody : ∀ (cdv : Value) (A : Around) (outer : List Env) (s : Shared) (H : Hp) (vs : List V) (Q : VK) (E : XK), Room k (A.deeper (envOfC qual (defScope st) s.heap.objs.size f cdv)) → sp vs H Q E →
      ∃ t, PSs (cxOf CX0 P w K mg base N qual (defScope st) f cdv A outer s H E).nox (defBody st) t ∧ t { nx := fun _ H' => Q .non H', rt := Q } (start N vs) H) : FnOk P w K mg base CX0 (k + 1) f fd ps sp := by
  obtain ⟨oc, od, kV, doc, pm, an, cdv, ct, osl, rfl, lk, hcd⟩ := F.ex
  refine fn_of lk hcd S len fun A outer s H vs Q E hr hsp => ?_
  obtain ⟨t, h, q⟩ := hbody cdv A outer s H vs Q E hr hsp
  exact ⟨t, h.nox, q⟩
theorem Fun.binds {x qual : Str} {st : Stmt} {f : Addr} {fd : FuncData} {ps : List Str} (F : Fun K x qual st f fd)
    (h : ∀ (kV doc pm : Value) (an : Option Addr) (cdv ct : Value) (us : List Value), us.length = ps.length → bindArgs (PySem.W.fnOf x qual (defArgs st) (defBody st) (defScope st) .none kV doc pm an cdv ct) ⟨us, []⟩ = pure (ps.zip us)) : Binds K fd ps [] := by
  obtain ⟨oc, od, kV, doc, pm, an, cdv, ct, osl, rfl, lk, hcd⟩ := F.ex
  exact .all (h kV doc pm an cdv ct)
theorem fun_mk {x qual : Str} {st : Stmt} {f : Addr} {oc : Value} {od an : Option Addr} {osl : Array (Option Value)} {kV doc pm cdv ct : Value} (l : K.lookup f = some ⟨oc, od, .func (PySem.W.fnOf x qual (defArgs st) (defBody st) (defScope st) .none kV doc pm an cdv ct), osl⟩)
    (c : PySem.W.codeIn K cdv qual = true) (k : PySem.W.keepIn K (.ref f) = true) : Fun K x qual st f (PySem.W.fnOf x qual (defArgs st) (defBody st) (defScope st) .none kV doc pm an cdv ct) := ⟨⟨oc, od, kV, doc, pm, an, cdv, ct, osl, rfl, l, c⟩, k⟩
end
theorem hu_of {A : Around} {k : Nat} (hr : Room k A) : A.units + 1 < cLine := Nat.lt_of_le_of_lt (Nat.add_le_add_left (by decide : 1 ≤ 64) _) hr.units
section
variable {X : Cx}
theorem pv (i : Nat) {x : Str} {pos : Pos} (hN : X.N[i]? = some x := by rfl) (hv : Vis X.env.scope x := by first | exact Or.inl rfl | exact Or.inr (Or.inl rfl) | exact Or.inr (Or.inr rfl)) (hd : (x == ("__debug__" : Str)) = false := by decide)
    (hcd : (x == ("__classdict__" : Str)) = false := by decide) : PE X (.Name x pos) (tVar i) := pe_var hN hv hd hcd
end

theorem iteF {A B : Prop} (h : B) : if false = true then A else B := by
  rw [if_neg Bool.false_ne_true]
  exact h
theorem iteT {A B : Prop} (h : A) : if true = true then A else B := by
  rw [if_pos rfl]
  exact h
theorem ite2 {c A B : Prop} [Decidable c] (h1 : c → A) (h2 : ¬ c → B) : if c then A else B := by
  by_cases h : c
  · rw [if_pos h]
    exact h1 h
  · rw [if_neg h]
    exact h2 h
def Same (H H' : Hp) : Prop := ∀ b o, H b = some o → H' b = some o
theorem Same.refl (H : Hp) : Same H H := fun _ _ h => h
theorem Same.trans {H H1 H2 : Hp} (a : Same H H1) (b : Same H1 H2) : Same H H2 := fun c o h => b c o (a c o h)
theorem Same.free {H H' : Hp} (e : Same H H') {l : Addr} (h : H' l = Option.none) : H l = Option.none := by
  cases q : H l with
  | none => rfl
  | some o =>
    rw [e l o q] at h
    cases h
theorem Same.seq {K : PySem.W.Frag} {H H' : Hp} {a : Addr} {xs : List V} (e : Same H H') (h : SqL K H a xs) : SqL K H' a xs := by
  rcases h with (h | ⟨o, h⟩) | h
  · exact .inl (.inl (e _ _ h))
  · exact .inl (.inr ⟨o, e _ _ h⟩)
  · exact .inr h

end L2

namespace L2
open PySem PySem.Spec PyProof.Rows

section
variable {κ : Type} [DecidableEq κ]
def valV (kvs : List (κ × V)) (k : κ) : Option V := (kvs.find? fun kv => decide (kv.1 = k)).map (·.2)
def putK (kvs : List (κ × V)) (k : κ) (v : V) : List (κ × V) :=
  if (kvs.any fun kv => decide (kv.1 = k)) = true then kvs.map (fun kv => if kv.1 = k then (kv.1, v) else kv) else kvs ++ [(k, v)]
def dropK (kvs : List (κ × V)) (k : κ) : List (κ × V) := kvs.filter fun kv => decide (kv.1 ≠ k)

theorem valV_pos {p : κ × V} {r : List (κ × V)} {k : κ} (e : p.1 = k) : valV (p :: r) k = some p.2 := by simp [valV, List.find?_cons, e]
theorem valV_neg {p : κ × V} {r : List (κ × V)} {k : κ} (e : ¬ p.1 = k) : valV (p :: r) k = valV r k := by simp [valV, List.find?_cons, e]
theorem valV_any (k : κ) : ∀ kvs : List (κ × V), (kvs.any fun kv => decide (kv.1 = k)) = (valV kvs k).isSome
  | [] => rfl
  | p :: r => by
    rw [List.any_cons]
    by_cases e : p.1 = k
    · simp only [valV_pos e, decide_eq_true e, Bool.true_or, Option.isSome_some]
    · rw [valV_neg e, decide_eq_false e, Bool.false_or]; exact valV_any k r
theorem length_putK (kvs : List (κ × V)) (k : κ) (v : V) : (putK kvs k v).length ≤ kvs.length + 1 := by
  unfold putK
  split
  · rw [List.length_map]; omega
  · rw [List.length_append, List.length_cons, List.length_nil]; omega
theorem RelO.isSome_eq {o : Option V} {u : Option Value} (r : RelO o u) : o.isSome = u.isSome := by
  cases o with
  | none => cases u with
    | none => rfl
    | some _ => exact (show False from r).elim
  | some _ => cases u with
    | none => exact (show False from r).elim
    | some _ => rfl
theorem RelO.getD {o : Option V} {u : Option Value} {d : V} {d' : Value} (r : RelO o u) (rd : RelV d d') : RelV (o.getD d) (u.getD d') := by
  cases o with
  | none => cases u with
    | none => exact rd
    | some _ => exact (show False from r).elim
  | some _ => cases u with
    | none => exact (show False from r).elim
    | some _ => exact r

theorem KV.val {kvs : List (κ × V)} {vs : List (κ × Value)} (r : KV kvs vs) (k : κ) : RelO (valV kvs k) (valueAt vs k) := by
  unfold KV at r
  induction r with
  | nil => exact True.intro
  | @cons p q ps qs h t ih =>
    obtain ⟨h1, h2⟩ := h
    by_cases e : p.1 = k
    · have e' : q.1 = k := h1.symm.trans e
      have b : valueAt (q :: qs) k = some q.2 := by simp [valueAt, List.find?_cons, e']
      rw [valV_pos e, b]; exact h2
    · have e' : ¬ q.1 = k := fun z => e (h1.trans z)
      have b : valueAt (q :: qs) k = valueAt qs k := by simp [valueAt, List.find?_cons, e']
      rw [valV_neg e, b]; exact ih
theorem KV.any {kvs : List (κ × V)} {vs : List (κ × Value)} (r : KV kvs vs) (k : κ) : (kvs.any fun kv => decide (kv.1 = k)) = vs.any fun kv => decide (kv.1 = k) := by
  unfold KV at r
  induction r with
  | nil => rfl
  | cons h t ih => rw [List.any_cons, List.any_cons, ih, h.1]
theorem KV.repl {kvs : List (κ × V)} {vs : List (κ × Value)} (r : KV kvs vs) (k : κ) {y : V} {u : Value} (ry : RelV y u) :
    KV (kvs.map fun kv => if kv.1 = k then (kv.1, y) else kv) (vs.map fun kv => if kv.1 = k then (kv.1, u) else kv) := by
  unfold KV at r ⊢
  induction r with
  | nil => exact .nil
  | @cons p q ps qs h t ih =>
    rw [List.map_cons, List.map_cons]
    refine .cons ?_ ih
    obtain ⟨h1, h2⟩ := h
    by_cases e : p.1 = k
    · rw [if_pos e, if_pos (h1.symm.trans e)]; exact ⟨h1, ry⟩
    · rw [if_neg e, if_neg (fun z => e (h1.trans z))]; exact ⟨h1, h2⟩
theorem KV.put {kvs : List (κ × V)} {vs : List (κ × Value)} (r : KV kvs vs) (k : κ) {y : V} {u : Value} (ry : RelV y u) : KV (putK kvs k y) (stored vs k u) := by
  unfold putK stored
  rw [r.any k]
  by_cases e : (vs.any fun kv => decide (kv.1 = k)) = true
  · rw [if_pos e, if_pos e]; exact r.repl k ry
  · rw [if_neg e, if_neg e]; exact Paired.snoc r ⟨rfl, ry⟩
theorem KV.drop {kvs : List (κ × V)} {vs : List (κ × Value)} (r : KV kvs vs) (k : κ) : KV (dropK kvs k) (without vs k) := by
  unfold KV at r ⊢
  unfold dropK without
  induction r with
  | nil => exact .nil
  | @cons p q ps qs h t ih =>
    obtain ⟨h1, h2⟩ := h
    rw [List.filter_cons, List.filter_cons]
    by_cases e : p.1 = k
    · have a : ¬ decide (p.1 ≠ k) = true := by simp [e]
      have b : ¬ decide (q.1 ≠ k) = true := by simp [h1.symm.trans e]
      rw [if_neg a, if_neg b]; exact ih
    · have e' : ¬ q.1 = k := fun z => e (h1.trans z)
      have a : decide (p.1 ≠ k) = true := by simp [e]
      have b : decide (q.1 ≠ k) = true := by simp [e']
      rw [if_pos a, if_pos b]; exact .cons ⟨h1, h2⟩ ih
theorem KV.keys {kvs : List (κ × V)} {vs : List (κ × Value)} (r : KV kvs vs) : kvs.map (·.1) = vs.map (·.1) := by
  unfold KV at r
  induction r with
  | nil => rfl
  | cons h t ih => rw [List.map_cons, List.map_cons, ih, h.1]
theorem KV.length {kvs : List (κ × V)} {vs : List (κ × Value)} (r : KV kvs vs) : kvs.length = vs.length := Paired.length r
end


theorem kV_is {P : Program} {w : World} {k : Key} {u : Value} (r : RelV (kV k) u) : (mixKind P w).is k u = true := by
  cases k with
  | inl i => obtain ⟨t, e⟩ := (show ∃ t, u = Value.int i t from r); subst e; exact mixKind_int P w i t
  | inr x => obtain ⟨t, e⟩ := (show ∃ t, u = Value.str x t from r); subst e; exact mixKind_str P w x t
theorem items_are {P : Program} {w : World} : ∀ {ks : List Key} {us : List Value}, Vals (ks.map kV) us → ItemsAre (mixKind P w) ks us
  | [], _, r => by rw [List.map_nil] at r; cases r; exact .nil
  | k :: ks, _, r => by
    rw [List.map_cons] at r
    cases r with
    | cons h t => exact .cons (kV_is h) (items_are t)

abbrev KT (H : Hp) : List (List Key × V) → List (List Key × Addr × Value) → Prop := Paired fun p q => p.1 = q.1 ∧ H q.2.1 = some (.tup (p.1.map kV)) ∧ RelV p.2 q.2.2
theorem KT.val {H : Hp} {kvs : List (List Key × V)} {xs : List (List Key × Addr × Value)} (r : KT H kvs xs) (k : List Key) : RelO (valV kvs k) ((atKey xs k).map (·.2)) := by
  induction r with
  | nil => exact True.intro
  | @cons p q ps qs h t ih =>
    obtain ⟨h1, _, h2⟩ := h
    by_cases e : p.1 = k
    · have e' : q.1 = k := h1.symm.trans e
      have b : atKey (q :: qs) k = some q.2 := by simp [atKey, List.find?_cons, e']
      rw [valV_pos e, b]; exact h2
    · have e' : ¬ q.1 = k := fun z => e (h1.trans z)
      have b : atKey (q :: qs) k = atKey qs k := by simp [atKey, List.find?_cons, e']
      rw [valV_neg e, b]; exact ih
theorem KT.repl {H : Hp} {kvs : List (List Key × V)} {xs : List (List Key × Addr × Value)} (r : KT H kvs xs) (k : List Key) {y : V} {u : Value} (ry : RelV y u) :
    KT H (kvs.map fun kv => if kv.1 = k then (kv.1, y) else kv) (xs.map (putAt k u)) := by
  induction r with
  | nil => exact .nil
  | @cons p q ps qs h t ih =>
    rw [List.map_cons, List.map_cons]
    refine .cons ?_ ih
    obtain ⟨h1, h2, h3⟩ := h
    unfold putAt
    by_cases e : p.1 = k
    · rw [if_pos e, if_pos (h1.symm.trans e)]; exact ⟨h1, h2, ry⟩
    · rw [if_neg e, if_neg (fun z => e (h1.trans z))]; exact ⟨h1, h2, h3⟩
theorem KT.put {H : Hp} {kvs : List (List Key × V)} {xs : List (List Key × Addr × Value)} (r : KT H kvs xs) (k : List Key) {b : Addr} {y : V} {u : Value} (hb : H b = some (.tup (k.map kV))) (ry : RelV y u) :
    KT H (putK kvs k y) (storedH xs k b u) := by
  have e : (kvs.any fun kv => decide (kv.1 = k)) = (atKey xs k).isSome := by
    rw [valV_any, (r.val k).isSome_eq, Option.isSome_map]
  unfold putK storedH
  rw [e]
  by_cases q : (atKey xs k).isSome = true
  · rw [if_pos q, if_pos q]; exact r.repl k ry
  · rw [if_neg q, if_neg q]; exact Paired.snoc r ⟨rfl, hb, ry⟩
theorem KT.keeps {H H' : Hp} {kvs : List (List Key × V)} {xs : List (List Key × Addr × Value)} (r : KT H kvs xs) (ht : ∀ b ys, H b = some (.tup ys) → H' b = some (.tup ys)) : KT H' kvs xs :=
  Paired.mapP r fun _ _ z => ⟨z.1, ht _ _ z.2.1, z.2.2⟩

section
variable {P : Program} {w : World} {H : Hp} {h : Heap} {a : Addr}
theorem rd_of {u : HO} (ok : HOk P w H h) (e : Rd H a u) : ObjOk P w H h a u := e.ok ok
theorem dk_rd {kvs : List (Key × V)} (ok : HOk P w H h) (e : Rd H a (.dK kvs)) : kvs.length ≤ sizeLine ∧ (a == sysModules) = false ∧ ∃ vs, KV kvs vs ∧ h.DictOf (mixKind P w) a vs :=
  show ObjOk P w H h a (.dK kvs) from rd_of ok e
theorem dk_of {kvs : List (Key × V)} (ok : HOk P w H h) (e : H a = some (.dK kvs)) : kvs.length ≤ sizeLine ∧ (a == sysModules) = false ∧ ∃ vs, KV kvs vs ∧ h.DictOf (mixKind P w) a vs := dk_rd ok (.inl e)
theorem key_of {ks : List Key} (ok : HOk P w H h) (e : H a = some (.tup (ks.map kV))) : (tupleKind (mixKind P w)).is h ks a := by
  obtain ⟨_, its, r, o, h1, h2, n, h3⟩ := (show ObjOk P w H h a (.tup (ks.map kV)) from ok a _ e)
  exact ⟨o, its.toArray, n, h1, h2, h3, by simpa using items_are r⟩
theorem dt_rd {kvs : List (List Key × V)} (ok : HOk P w H h) (e : Rd H a (.dT kvs)) : kvs.length ≤ sizeLine ∧ (a == sysModules) = false ∧
    ∃ xs, KT H kvs xs ∧ h.DictOfH (tupleKind (mixKind P w)) a xs := by
  obtain ⟨z, y, xs, r, o, es, ep, h1, h2, h3, h4, h5⟩ := (show ObjOk P w H h a (.dT kvs) from rd_of ok e)
  refine ⟨z, y, xs, r, o, es, ep, h1, h2, h3, h4, fun x hx => ?_, h5⟩
  have all : ∀ {l : List (List Key × V)} {m : List (List Key × Addr × Value)}, KT H l m → ∀ x ∈ m, (tupleKind (mixKind P w)).is h x.1 x.2.1 := by
    intro l m q
    induction q with
    | nil => intro x hx; exact nomatch hx
    | @cons p q ps qs hq t ih =>
      intro x hx
      rcases List.mem_cons.mp hx with e | hx
      · subst e
        exact key_of ok (by rw [← hq.1]; exact hq.2.1)
      · exact ih x hx
  exact all r x hx
end

def DGet (H : Hp) (a : Addr) (y : V) (r : Option V) : Prop :=
  (∃ kvs k, Rd H a (.dK kvs) ∧ y = kV k ∧ r = valV kvs k) ∨ ∃ kvs k b, Rd H a (.dT kvs) ∧ y = .ref b ∧ H b = some (.tup (k.map kV)) ∧ r = valV kvs k
def DPut (H : Hp) (a : Addr) (y v : V) (H' : Hp) : Prop :=
  (∃ kvs k, H a = some (.dK kvs) ∧ y = kV k ∧ kvs.length < sizeLine ∧ H' = upd H a (.dK (putK kvs k v))) ∨
  ∃ kvs k b, H a = some (.dT kvs) ∧ y = .ref b ∧ H b = some (.tup (k.map kV)) ∧ kvs.length < sizeLine ∧ H' = upd H a (.dT (putK kvs k v))
theorem DGet.k {H : Hp} {a : Addr} {kvs : List (Key × V)} {k : Key} (e : H a = some (.dK kvs)) : DGet H a (kV k) (valV kvs k) := .inl ⟨kvs, k, .inl e, rfl, rfl⟩
theorem DGet.t {H : Hp} {a b : Addr} {kvs : List (List Key × V)} {k : List Key} (e : H a = some (.dT kvs)) (eb : H b = some (.tup (k.map kV))) : DGet H a (.ref b) (valV kvs k) := .inr ⟨kvs, k, b, .inl e, rfl, eb, rfl⟩
theorem DPut.k {H : Hp} {a : Addr} {kvs : List (Key × V)} {k : Key} {v : V} (e : H a = some (.dK kvs)) (hl : kvs.length < sizeLine) : DPut H a (kV k) v (upd H a (.dK (putK kvs k v))) := .inl ⟨kvs, k, e, rfl, hl, rfl⟩
theorem DPut.t {H : Hp} {a b : Addr} {kvs : List (List Key × V)} {k : List Key} {v : V} (e : H a = some (.dT kvs)) (eb : H b = some (.tup (k.map kV))) (hl : kvs.length < sizeLine) :
    DPut H a (.ref b) v (upd H a (.dT (putK kvs k v))) := .inr ⟨kvs, k, b, e, rfl, eb, hl, rfl⟩


section
variable {X : Cx} {pins : List (Addr × Obj)} {σ : St} {H : Hp} {s : Shared} {a : Addr} {y v : V} {u r : Value} {o : Option V} {A : Around} {E : Value → Shared → Prop}

theorem Inv.big (I : Inv X pins σ H s) : sysModules < s.heap.objs.size := by
  have h : mainGlobals < s.heap.objs.size := (I.mod.glob.keeps I.bk).lt
  exact Nat.lt_trans (by decide) h

theorem d_getItem {Q : Value → Shared → Prop} (hu : A.units + 1 < cLine) (I : Inv X pins σ H s) (g : DGet H a y (some v)) (ry : RelV y u) (h : ∀ w' s', Inv X pins σ H s' → RelV v w' → Q w' s') :
    wpAny (model X.prog X.w) A (getItem (.ref a) u) Q E s := by
  rcases g with ⟨kvs, k, e, ey, l⟩ | ⟨kvs, k, b, e, ey, eb, l⟩
  · subst ey
    obtain ⟨z, hd, vs, rel, dd⟩ := dk_rd I.hok e
    obtain ⟨w', hw, rw'⟩ := RelO.some_of (v := v) (o := valueAt vs k) (by rw [l]; exact rel.val k)
    exact wpAny_getItem_of (kV_is ry) dd.mapOf hw (h w' _ (I.tok _) rw')
  · subst ey
    cases (show u = Value.ref b from ry)
    obtain ⟨z, hd, xs, rel, dd⟩ := dt_rd I.hok e
    obtain ⟨w', hw, rw'⟩ := RelO.some_of (v := v) (o := (atKey xs k).map (·.2)) (by rw [l]; exact rel.val k)
    obtain ⟨p, hp, hp2⟩ := Option.map_eq_some_iff.mp hw
    refine wpAny_getItem_heap (tupleKind_room_in1 hu) (key_of I.hok eb) dd hp ?_
    rw [hp2]
    exact h w' _ (I.tok _) rw'
theorem d_write {h' : Heap} {t' : Nat} {ob : HO} (I : Inv X pins σ H s) (mu : Mut (H a)) (hs : Heap.SameBut a s.heap h') (he : ∃ q, h'.get? a = some q) (new : ObjOk X.prog X.w (upd H a ob) h' a ob) :
    Inv X pins σ (upd H a ob) { s with heap := h', toks := t' } :=
  I.write (x := a) (e := a) mu (.inl rfl) (fun b q hb z => (hs.2 b hb).trans z) he new
theorem dk_new {P : Program} {w : World} {H' : Hp} {h' : Heap} {kvs : List (Key × V)} {vs : List (Key × Value)} (z : kvs.length ≤ sizeLine) (hd : (a == sysModules) = false) (rel : KV kvs vs) (dd : h'.DictOf (mixKind P w) a vs) :
    ObjOk P w H' h' a (.dK kvs) := ⟨z, hd, vs, rel, dd⟩
end

section
variable {X : Cx} {pins : List (Addr × Obj)} {σ : St} {H : Hp} {s : Shared} {a : Addr} {kvs : List (Key × V)} {k : Key} {u : Value} {A : Around} {E : Value → Shared → Prop}
end


def NoSl (i : Expr) : Prop := ∀ ov iv, subscripted i false ov iv = operate [ov, iv] (getItem ov iv)
theorem subD_of {prog : Program} {w : World} {A : Around} {E : Value → Shared → Prop} {s : Shared} {env : Env} {value slice : Expr} {pos : Pos} {T id : String} {Q : Value → Shared → Prop}
    (hl : typeLookup (.type T) "__getitem__" = pure (some (.builtin id))) (hs : NoSl slice)
    (h : wpAny (model prog w) A (eval value env) (fun o s₁ => wpAny (model prog w) A (eval slice env) (fun i s₂ => s₂.TypeIs o T ∧ wpAny (model prog w) A (getItem o i) Q E s₂) E s₁) E s) :
    wpAny (model prog w) A (eval (.Subscript value slice pos) env) Q E s := by
  refine Subscript_ (wpAny_mono h (fun o s₁ h₁ => wpAny_mono h₁ (fun i s₂ h₂ => ?_) fun _ _ x => x) fun _ _ x => x)
  obtain ⟨hT, h₂⟩ := h₂
  unfold subscriptTail
  refine wpAny_bind ?_
  rw [getitemInPython_of_ne hT.not_modules]
  refine wpAny_bind (wpAny_specialOf hT hl ?_)
  have fin : wpAny (model prog w) A (subscripted slice false o i) (fun r s₃ => wpAny (model prog w) A (letTemporaryGo value o r >>= fun _ => pure r) Q E s₃) E s₂ := by
    rw [hs o i]
    exact wpAny_operating (wpAny_mono h₂ (fun r s₃ h₃ => wpAny_bind (wpAny_letTemporaryGo (wpAny_pure h₃))) fun _ _ x => x)
  first
    | exact wpAny_pure (wpAny_bind fin)
    | exact wpAny_bind (wpAny_pure (wpAny_bind fin))
    | exact wpAny_bind fin

theorem dict_typeIs {X : Cx} {pins : List (Addr × Obj)} {σ : St} {H : Hp} {s : Shared} {a : Addr} {y : V} {o : Option V} (I : Inv X pins σ H s) (g : DGet H a y o) : s.TypeIs (.ref a) "dict" := by
  rcases g with ⟨kvs, k, e, _, _⟩ | ⟨kvs, k, b, e, _, _, _⟩
  · obtain ⟨_, _, vs, _, dd⟩ := dk_rd I.hok e
    exact dd.typeIs
  · obtain ⟨_, _, xs, _, dd⟩ := dt_rd I.hok e
    exact dd.typeIs
def tDGet (td ty : TE) : TE := fun σ H Q => td σ H fun x H1 => ty σ H1 fun y H2 => ∃ a v, x = .ref a ∧ DGet H2 a y (some v) ∧ Q v H2
section
variable {X : Cx} {o i e value : Expr} {pos pos' tpos : Pos} {td ty tv : TE}
theorem pe_dget (hu : X.A.units + 1 < cLine) (ho : PE X o td) (hi : PE X i ty) (hs : NoSl i) : PE X (.Subscript o i pos) (tDGet td ty) := by
  intro pins s σ H Q I h
  refine subD_of PySem.F.slot_dict_getitem.lookup hs (thn (ho pins s σ H _ I h) fun u s1 ⟨x, H1, I1, rx, q1⟩ => thn (hi pins s1 σ H1 _ I1 q1) fun iv s2 ⟨y, H2, I2, ry, a, v, ex, g, q2⟩ => ?_)
  subst ex
  obtain rfl : u = Value.ref a := rx
  exact ⟨dict_typeIs I2 g, d_getItem hu I2 g ry fun w' s3 I3 rw' => ⟨v, H2, I3, rw', q2⟩⟩
end


theorem dk_empty {P : Program} {w : World} {H : Hp} (h : Heap) (hb : sysModules < h.objs.size) : ObjOk P w H (h.push { cls := .type "dict", data := .dict #[] }) h.objs.size (.dK []) :=
  ⟨Nat.zero_le _, beq_eq_false_iff_ne.mpr (Ne.symm (Nat.ne_of_lt hb)), [], .nil, Heap.DictOf.new h⟩
section
variable {X : Cx} {pos : Pos}
end

def tPairs : List (TE × TE) → St → Hp → (List (V × V) → Hp → Prop) → Prop
  | [], _, H, Q => Q [] H
  | (tk, tv) :: r, σ, H, Q => tk σ H fun x H1 => tv σ H1 fun y H2 => tPairs r σ H2 fun ps H3 => Q ((x, y) :: ps) H3
abbrev VV : List (V × V) → List (Value × Value) → Prop := Paired fun p q => RelV p.1 q.1 ∧ RelV p.2 q.2
def PPs (X : Cx) (pos : Pos) (keys : List (Option Expr)) (values : List Expr) (trs : List (TE × TE)) : Prop :=
  ∀ (pins : List (Addr × Obj)) (s : Shared) (σ : St) (H : Hp) (Q : List (V × V) → Hp → Prop), Inv X pins σ H s → tPairs trs σ H Q →
    wpAny (model X.prog X.w) X.A (evalPairs (pairTrees keys values X.env pos)) (fun vs s' => ∃ ps H', Inv X pins σ H' s' ∧ VV ps vs ∧ Q ps H') X.xe s
theorem pps_nil {X : Cx} {pos : Pos} : PPs X pos [] [] [] := fun pins s σ H Q I h => pairTrees_nil_walk ⟨[], H, I, .nil, h⟩
theorem pps_cons {X : Cx} {pos : Pos} {k v : Expr} {ks : List (Option Expr)} {vs : List Expr} {tk tv : TE} {trs : List (TE × TE)} (hk : PE X k tk) (hv : PE X v tv) (hr : PPs X pos ks vs trs) :
    PPs X pos (some k :: ks) (v :: vs) ((tk, tv) :: trs) := fun pins s σ H Q I h =>
  pairTrees_cons_walk (thn (hk pins s σ H _ I h) fun u s1 ⟨x, H1, I1, rx, q1⟩ => thn (hv pins s1 σ H1 _ I1 q1) fun w2 s2 ⟨y, H2, I2, ry, q2⟩ =>
    thn (hr pins s2 σ H2 _ I2 q2) fun ws s3 ⟨ps, H3, I3, rel, q3⟩ => ⟨(x, y) :: ps, H3, I3, .cons ⟨rx, ry⟩ rel, q3⟩)

def mergeK (kvs more : List (Key × V)) : List (Key × V) := more.foldl (fun acc kv => putK acc kv.1 kv.2) kvs
theorem KV.merge : ∀ {more : List (Key × V)} {rs : List (Key × Value)} {kvs : List (Key × V)} {vs : List (Key × Value)}, KV more rs → KV kvs vs → KV (mergeK kvs more) (merged vs rs) := by
  intro more rs kvs vs r
  unfold KV at r
  induction r generalizing kvs vs with
  | nil => intro q; exact q
  | @cons p q ps qs h t ih =>
    intro r0
    have e : KV (putK kvs p.1 p.2) (stored vs q.1 q.2) := by
      have := r0.put p.1 h.2
      rw [← h.1]; exact this
    exact ih e
theorem length_mergeK : ∀ (more kvs : List (Key × V)), (mergeK kvs more).length ≤ kvs.length + more.length
  | [], kvs => by show kvs.length ≤ kvs.length + 0; omega
  | p :: r, kvs => by
    have h1 := length_mergeK r (putK kvs p.1 p.2)
    have h2 := length_putK kvs p.1 p.2
    show (mergeK (putK kvs p.1 p.2) r).length ≤ _
    rw [List.length_cons]; omega
theorem carries_of {P : Program} {w : World} : ∀ {kvs : List (Key × V)} {ws : List (Value × Value)}, VV (kvs.map fun kv => (kV kv.1, kv.2)) ws → ∃ rs, Carries (mixKind P w) ws rs ∧ KV kvs rs
  | [], _, r => by rw [List.map_nil] at r; cases r; exact ⟨[], True.intro, .nil⟩
  | p :: kvs, _, r => by
    rw [List.map_cons] at r
    cases r with
    | @cons a b as bs h t =>
      obtain ⟨rs, c, q⟩ := carries_of (P := P) (w := w) t
      obtain ⟨b1, b2⟩ := b
      exact ⟨(p.1, b2) :: rs, ⟨kV_is h.1, rfl, c⟩, .cons ⟨rfl, h.2⟩ q⟩
def tDisp (trs : List (TE × TE)) : TE := fun σ H Q => ∀ p, H p = none → tPairs trs σ (upd H p (.dK [])) fun ps H2 => H2 p = some (.dK []) ∧ ∃ kvs : List (Key × V), ps = kvs.map (fun kv => (kV kv.1, kv.2)) ∧ kvs.length ≤ 15 ∧ Q (.ref p) (upd H2 p (.dK (mergeK [] kvs)))
theorem pe_disp {X : Cx} {pos : Pos} {keys : List (Option Expr)} {values : List Expr} {trs : List (TE × TE)} (h : PPs X pos keys values trs) (hall : keys.all (·.isSome) = true) (hl : keys.length = values.length) (h0 : keys ≠ [])
    (h15 : keys.length ≤ 15) : PE X (.Dict keys values pos) (tDisp trs) := by
  intro pins s σ H Q I q
  have hn := I.hok.fresh (Nat.le_refl s.heap.objs.size)
  have I1 := I.laid (a := s.heap.objs.size) (o := .dK []) (h' := s.heap.push { cls := .type "dict", data := .dict #[] }) (t' := s.toks) (fun _ _ q => Heap.get?_push_of_some _ q) (Nat.le_refl _) (dk_empty s.heap I.big)
  refine wpAny_Dict_walk (knd := mixKind X.prog X.w) hall hl h0 h15 (thn (h pins _ σ _ _ I1 (q _ hn)) fun ws s2 ⟨ps, H2, I2, rel, e, kvs, ep, lk, q2⟩ => ?_)
  subst ep
  obtain ⟨rs, c, rk⟩ := carries_of (P := X.prog) (w := X.w) rel
  obtain ⟨z, hd, vs0, r0, dd⟩ := dk_of I2.hok e
  cases r0
  refine ⟨rs, c, dd, fun h' dd' hs => ⟨.ref s.heap.objs.size, _, ?_, rfl, q2⟩⟩
  have hz : (mergeK [] kvs).length ≤ sizeLine := by
    have h1 := length_mergeK kvs []
    rw [List.length_nil] at h1
    rw [sizeLine_eq]; omega
  have he : ∃ q, h'.get? s.heap.objs.size = some q := let ⟨q, _, _, hq, _⟩ := dd'; ⟨q, hq⟩
  exact d_write I2 (by rw [e]; exact True.intro) hs he (dk_new hz hd (rk.merge .nil) dd')


structure M1 (X : Cx) (o : Expr) (m : Str) (apos : Pos) (e : Expr) (cpos : Pos) : Prop where
  base : attributeBase o m X.env (eval o X.env) = eval o X.env
  few : ((backTo cpos (starEach [e] X.env)).all (fun x => !x.1) && (backToKw cpos (keywordEach [] X.env)).all (fun x => x.1.isSome)
    && decide (([e] : List Expr).length + ([] : List Keyword).length + (if ([] : List Keyword).isEmpty then 0 else 1) < 30)) = true
  line : (apos.endLine == cpos.line) = true
  trees : backTo cpos (starEach [e] X.env) = [(false, eval e X.env)]
section
variable {X : Cx} {pins : List (Addr × Obj)} {σ : St} {H : Hp} {s : Shared} {a : Addr} {y d : V} {u r : Value} {o : Option V} {A : Around} {E : Value → Shared → Prop}
end

section
variable {X : Cx} {o e f : Expr} {apos cpos : Pos} {td ty tx : TE}
end

section
variable {X : Cx} {pins : List (Addr × Obj)} {σ : St} {H : Hp} {s : Shared} {a : Addr} {kvs : List (Key × V)} {A : Around} {E : Value → Shared → Prop}
end


section
variable {X : Cx} {pins : List (Addr × Obj)} {σ : St} {H : Hp} {s : Shared} {a : Addr} {y : V} {u : Value} {A : Around} {E : Value → Shared → Prop}
end
end L2

namespace L2
open PySem PySem.Spec PyProof.Rows
section
variable {X : Cx}
end
section
variable {κ : Type} [DecidableEq κ]
end
end L2

set_option maxHeartbeats 4000000
namespace L2
open PySem PySem.Spec PyProof.Rows
section
variable {X : Cx} {a b c d : Expr} {ta tb tc td : TE} {pos : Pos}
def tChain3 (r r' r'' : R2) (ta tb tc td : TE) : TE := fun σ H Q => ta σ H fun x H1 => tb σ H1 fun y H2 => r x y H2 fun z H3 => ∃ k, z = .bl k ∧
  (if k = true then tc σ H3 fun y' H4 => r' y y' H4 fun z' H5 => ∃ k', z' = .bl k' ∧ (if k' = true then td σ H5 fun w' H6 => r'' y' w' H6 Q else Q (.bl false) H5) else Q (.bl false) H3)
theorem pe_chain3 {op op' op'' : CmpOp} {r r' r'' : R2} (ho : OpR X (compareOp op) r) (ho' : OpR X (compareOp op') r') (ho'' : OpR X (compareOp op'') r'') (ha : PE X a ta) (hb : PE X b tb) (hc : PE X c tc) (hd : PE X d td)
    (hm : lastMarks [op, op', op''] [b, c, d] = false := by with_unfolding_all rfl) : PE X (.Compare a [op, op', op''] [b, c, d] pos) (tChain3 r r' r'' ta tb tc td) := by
  intro pins s σ H Q I h
  refine Compare_chain (thn (ha pins s σ H _ I h) fun v s1 ⟨x, H1, I1, r1, q1⟩ => chain_link (thn (hb pins s1 σ H1 _ I1 q1) fun u s2 ⟨y, H2, I2, r2, q2⟩ =>
    thn (ho pins s2 σ H2 x y v u _ I2 r1 r2 q2) fun d s3 ⟨z, H3, I3, r3, k, e, q3⟩ => ?_)) hm
  subst e
  cases r3
  refine wpAny_truthy_bool ?_
  cases k with
  | false => exact ite_ff ⟨.bl false, H3, I3, rfl, q3⟩
  | true =>
    refine ite_tt (chain_link (thn (hc pins s3 σ H3 _ I3 q3) fun u' s4 ⟨y', H4, I4, r4, q4⟩ => thn (ho' pins s4 σ H4 y y' u u' _ I4 r2 r4 q4) fun d' s5 ⟨z', H5, I5, r5, k', e', q5⟩ => ?_))
    subst e'
    cases r5
    refine wpAny_truthy_bool ?_
    cases k' with
    | false => exact ite_ff ⟨.bl false, H5, I5, rfl, q5⟩
    | true => exact ite_tt (chain_last (thn (hd pins s5 σ H5 _ I5 q5) fun w' s6 ⟨w6, H6, I6, r6, q6⟩ => ho'' pins s6 σ H6 y' w6 u' w' Q I6 r4 r6 q6))
end

def cloOf (env : Env) : List (Str × NameKind) → List (Str × Addr) → List (Str × Addr)
  | [], acc => acc
  | (n, k) :: r, acc => cloOf env r (if (k == .free) = true then (n, (env.cells.lookup n).getD 0) :: acc else acc)
theorem closure_go {env : Env} : ∀ (ns : List (Str × NameKind)) (acc : List (Str × Addr)), (∀ y ∈ ns, y.2 = .free → ∃ c, env.cells.lookup y.1 = some c) →
    (forIn ns acc fun x cs => (do if x.2 == .free then (do let a ← cellOf env x.1; pure (ForInStep.yield ((x.1, a) :: cs))) else pure (ForInStep.yield cs) : Sem _)) = pure (cloOf env ns acc)
  | [], acc, _ => rfl
  | (n, k) :: r, acc, h => by
    rw [List.forIn_cons]
    by_cases hk : k = .free
    · subst hk
      obtain ⟨c, hc⟩ := h (n, .free) List.mem_cons_self rfl
      have e : cellOf env n = pure c := by unfold cellOf; rw [hc]
      simp only [beq_self_eq_true, if_true, e, cloOf, hc, Option.getD_some, pure_bind]
      exact closure_go r _ fun y hy => h y (List.mem_cons_of_mem _ hy)
    · have hb : (k == NameKind.free) = false := by simpa using hk
      simp only [hb, Bool.false_eq_true, if_false, cloOf, pure_bind]
      exact closure_go r _ fun y hy => h y (List.mem_cons_of_mem _ hy)
theorem closure_ok {scope : Scope} {env : Env} (h : ∀ y ∈ scope.names, y.2 = .free → ∃ c, env.cells.lookup y.1 = some c) : closureFor scope env = pure (cloOf env scope.names []) := by
  have e := closure_go scope.names [] h
  unfold closureFor
  first
    | exact e
    | (simp only [] at e ⊢; exact e)
    | (simpa using e)
theorem cloOf_sub {env : Env} : ∀ {ns : List (Str × NameKind)} {acc : List (Str × Addr)} {x : Str} {c : Addr}, (∀ y ∈ ns, y.2 = .free → ∃ c, env.cells.lookup y.1 = some c) → (∀ x c, acc.lookup x = some c → env.cells.lookup x = some c) →
    (cloOf env ns acc).lookup x = some c → env.cells.lookup x = some c
  | [], acc, x, c, _, ha, h => ha x c h
  | (n, k) :: r, acc, x, c, hf, ha, h => by
    refine cloOf_sub (ns := r) (fun y hy => hf y (List.mem_cons_of_mem _ hy)) (fun x' c' h' => ?_) h
    by_cases hk : k = .free
    · subst hk
      obtain ⟨c0, hc0⟩ := hf (n, .free) List.mem_cons_self rfl
      rw [if_pos (by simp)] at h'
      rw [List.lookup_cons] at h'
      cases hx : x' == n with
      | true =>
        simp only [hx] at h'
        have : x' = n := by simpa using hx
        rw [this, ← h', hc0]; rfl
      | false => simp only [hx] at h'; exact ha _ _ h'
    · rw [if_neg (by simpa using hk)] at h'
      exact ha _ _ h'
theorem cloOf_keep {env : Env} : ∀ {ns : List (Str × NameKind)} {acc : List (Str × Addr)} {x : Str}, (∃ c, acc.lookup x = some c) → ∃ c, (cloOf env ns acc).lookup x = some c
  | [], acc, x, h => h
  | (n, k) :: r, acc, x, h => by
    refine cloOf_keep (ns := r) ?_
    split
    · rw [List.lookup_cons]
      cases hx : x == n with
      | true => exact ⟨_, rfl⟩
      | false => exact h
    · exact h
theorem cloOf_has {env : Env} : ∀ {ns : List (Str × NameKind)} {acc : List (Str × Addr)} {x : Str}, ns.lookup x = some .free → ∃ c, (cloOf env ns acc).lookup x = some c
  | [], acc, x, h => by simp at h
  | (n, k) :: r, acc, x, h => by
    rw [List.lookup_cons] at h
    cases hx : x == n with
    | true =>
      simp only [hx] at h
      cases h
      refine cloOf_keep (ns := r) ?_
      rw [if_pos (by simp), List.lookup_cons, hx]
      exact ⟨_, rfl⟩
    | false =>
      simp only [hx] at h
      exact cloOf_has (ns := r) h
theorem relabel_kind {env : Env} {scope : Scope} {x : Str} {k : NameKind} (h : (relabel scope env).names.lookup x = some k) : ∃ k0, scope.names.lookup x = some k0 ∧ (k = k0 ∨ (k0 = .free ∧ k = .cell)) := by
  unfold relabel at h
  dsimp only at h
  generalize scope.names = ns at h ⊢
  induction ns with
  | nil => simp at h
  | cons y r ih =>
    obtain ⟨n, kk⟩ := y
    rw [List.map_cons] at h
    dsimp only at h
    by_cases hc : (kk == NameKind.free && env.scope.kind == .function && env.kindOf n == some .cell) = true
    · rw [if_pos hc, List.lookup_cons] at h
      rw [List.lookup_cons]
      cases hx : x == n with
      | true =>
        simp only [hx] at h ⊢
        have : kk = .free := by simp at hc; exact hc.1.1
        exact ⟨_, rfl, .inr ⟨this, (Option.some.inj h).symm⟩⟩
      | false => simp only [hx] at h ⊢; exact ih h
    · rw [if_neg hc, List.lookup_cons] at h
      rw [List.lookup_cons]
      cases hx : x == n with
      | true => simp only [hx] at h ⊢; exact ⟨_, rfl, .inl (Option.some.inj h).symm⟩
      | false => simp only [hx] at h ⊢; exact ih h
theorem relabel_free {env : Env} {scope : Scope} {x : Str} (h : scope.names.lookup x = some .free) : (relabel scope env).names.lookup x = some .cell ∨ (relabel scope env).names.lookup x = some .free := by
  unfold relabel
  dsimp only
  generalize scope.names = ns at h ⊢
  induction ns with
  | nil => simp at h
  | cons y r ih =>
    obtain ⟨n, kk⟩ := y
    rw [List.lookup_cons] at h
    rw [List.map_cons]
    dsimp only
    cases hx : x == n with
    | true =>
      simp only [hx] at h
      cases h
      by_cases hc : (NameKind.free == NameKind.free && env.scope.kind == .function && env.kindOf n == some .cell) = true
      · rw [if_pos hc, List.lookup_cons, hx]; exact .inl rfl
      · rw [if_neg hc, List.lookup_cons, hx]; exact .inr rfl
    | false =>
      simp only [hx] at h
      by_cases hc : (kk == NameKind.free && env.scope.kind == .function && env.kindOf n == some .cell) = true
      · rw [if_pos hc, List.lookup_cons, hx]; exact ih h
      · rw [if_neg hc, List.lookup_cons, hx]; exact ih h

def cxComp (X : Cx) (N : List Str) (scope : Scope) (C : Addr) (fp : List Addr) (s : Shared) (H : Hp) : Cx where
  prog := X.prog
  w := X.w
  K := X.K
  mg := X.mg
  base := X.base
  A := X.A
  N := N
  s₀ := s
  H₀ := H
  env := compEnvC scope (cloOf X.env scope.names []) C X.env
  outer := X.stack
  stack := X.stack
  ex := fp
  fn := fun _ => false
  calm := X.calm
  pn := []
  xe := fun _ _ => False
structure CompOk (NX : List Str) (nx : List (Str × NameKind)) (N : List Str) (k : Nat) (caps : List Nat) (sc : Scope) : Prop where
  kind : sc.kind = .function
  len : N.length = k + caps.length
  cap : (N.drop k).map some = caps.map (NX[·]?)
  fre : ∀ x ∈ N.drop k, sc.names.lookup x = some .free ∧ (nx.lookup x = some .cell ∨ nx.lookup x = some .free)
  cell : ∀ y ∈ sc.names, y.2 ≠ .cell
  loc : ∀ y ∈ sc.names, y.2 = .local → sc.names.lookup y.1 = some .local
  free : ∀ y ∈ sc.names, y.2 = .free → nx.lookup y.1 = some .cell ∨ nx.lookup y.1 = some .free
def capσ (σ : St) (caps : List Nat) : St := caps.map fun j => (σ[j]?).join
def tComp (wi : TI) (k : Nat) (caps : List Nat) (g : TG) (tc : TT) (te : TE) : TE := fun σ H Q => wi σ H fun J H1 => ∀ D, H1 D = none →
  ∃ W : Nat → Nat → List V → St → Hp → Prop, (∃ m, W 0 m [] (List.replicate k none ++ capσ σ caps) (upd H1 D (.lst []))) ∧
    ∀ i m ys σ' H', W i m ys σ' H' → H' D = some (.lst ys) →
      (J.stop i H' ∧ Q (.ref D) H') ∨ (J.go i H' ∧ ∀ x H2, J.yld i H' x H2 → g x σ' H2 fun σ3 H3 => tc σ3 H3 fun b H4 =>
        if b = true then te σ3 H4 fun y H5 => H5 D = some (.lst ys) ∧ ys.length < sizeLine ∧ ∃ m', m' < m ∧ W (i + 1) m' (ys ++ [y]) σ3 (upd H5 D (.lst (ys ++ [y])))
        else H4 D = some (.lst ys) ∧ ∃ m', m' < m ∧ W (i + 1) m' ys σ3 H4)
def PCs (X : Cx) (ifs : List Expr) (t : TT) : Prop :=
  ∀ (pins : List (Addr × Obj)) (s : Shared) (σ : St) (H : Hp) (Q : Bool → Hp → Prop), Inv X pins σ H s → t σ H Q →
    wpAny (model X.prog X.w) X.A (forIn ifs true fun c r => if r = true then do let ok ← isTrue c X.env (eval c X.env); pure (ForInStep.yield ok) else pure (ForInStep.yield r)) (TP X pins σ Q) X.xe s
def tYes : TT := fun _ H Q => Q true H
theorem pcs_nil {X : Cx} : PCs X [] tYes := fun _ _ _ H _ I h => wpAny_tests_nil ⟨H, I, h⟩
theorem compLoop_own {prog : Program} {w : World} {A : Around} {R : Result → Shared → Prop} {s : Shared} {elt target iter : Expr} {ifs : List Expr} {scope : Scope} {pos : Pos} {it acc : Value} {env : Env} (I : Nat → Shared → Prop)
    (turn : ∀ n s, I n s → wpAny (model prog w) A (pyNext it) (fun r s₁ => match r with
      | none => R (.ok .next) s₁
      | some v => wpAny (model prog w) A (letOwnedTupleGo target it v) (fun _ s₁' => wpAny (model prog w) A (assign target env v) (fun _ s₂ =>
          wpAny (model prog w) A (forIn ifs true fun c r => if r = true then do let ok ← isTrue c env (eval c env); pure (ForInStep.yield ok) else pure (ForInStep.yield r)) (fun ok s₃ =>
            if ok = true then wpAny (model prog w) A (eval elt env) (fun x s₄ =>
              wpAny (model prog w) A (call (.builtin "list.append") [acc, x]) (fun _ s₅ => ∃ m, m < n ∧ I m s₅) (fun _ _ => False) s₄) (fun _ _ => False) s₃
            else ∃ m, m < n ∧ I m s₃) (fun _ _ => False) s₂) (fun _ _ => False) s₁') (fun _ _ => False) s₁) (fun _ _ => False) s)
    (n : Nat) (h : I n s) : codeAny (model prog w) A (.compLoop (.ListComp elt [⟨target, iter, ifs, 0⟩] scope pos) 0 it acc env) R s := by
  refine codeAny_loop rfl I (fun n s hI => ?_) n h
  show wpAny _ A ((compTurn (.ListComp elt [⟨target, iter, ifs, 0⟩] scope pos) 0 it acc env).onRaise (fun x => do noteFrame x env; theTreesLotGoes x)) _ _ s
  refine wpAny_noted ?_
  rw [compTurn_list]
  refine wpAny_bind (wpAny_standAt (wpAny_bind (wpAny_mono (turn n s hI) (fun r s₁ h₁ => ?_) fun _ _ h' => h'.elim)))
  cases r with
  | none => exact wpAny_pure h₁
  | some v =>
    refine wpAny_bind (wpAny_mono h₁ (fun _ s₁' h₁' => ?_) fun _ _ h' => h'.elim)
    refine wpAny_bind (wpAny_mono h₁' (fun _ s₂ h₂ => wpAny_bind (wpAny_mono h₂ (fun ok s₃ h₃ => ?_) fun _ _ h' => h'.elim)) fun _ _ h' => h'.elim)
    cases ok with
    | false => exact wpAny_pure ⟨rfl, h₃⟩
    | true =>
      exact wpAny_bind (wpAny_bind (wpAny_mono h₃ (fun x s₄ h₄ => wpAny_bind (wpAny_mono h₄ (fun _ s₅ h₅ => wpAny_pure (wpAny_pure ⟨rfl, h₅⟩)) fun _ _ h' => h'.elim)) fun _ _ h' => h'.elim))

theorem pe_comp {X : Cx} {elt iter tg : Expr} {ifs : List Expr} {scope : Scope} {pos : Pos} {N : List Str} {k : Nat} {caps : List Nat} {wi : TI} {g : TG} {tc : TT} {te : TE}
    (hc : X.calm = true) (S : CompOk X.N X.env.scope.names N k caps scope) (hi : PI X tg iter wi)
    (hg : ∀ C fp s H, PG (cxComp X N scope C fp s H) tg g) (ht : ∀ C fp s H, PCs (cxComp X N scope C fp s H) ifs tc) (he : ∀ C fp s H, PE (cxComp X N scope C fp s H) elt te)
    (hs : ∀ x, foldedSetIterable iter X.env x = pure x := by intro _; rfl) : PE X (.ListComp elt [⟨tg, iter, ifs, 0⟩] scope pos) (tComp wi k caps g tc te) := by
  intro pins s σ H Q I h
  have hcells : ∀ y ∈ scope.names, y.2 = .free → ∃ c, X.env.cells.lookup y.1 = some c := fun y hy hf => I.ok.has y.1 (S.free y hy hf)
  rw [eval_ListComp]
  refine wpAny_comprehension_free (use := none) rfl hs (closure_ok hcells) S.kind S.loc (thn (hi pins s σ H _ I h) fun v s1 h1 => thn h1 fun itv s2 h2 => ?_)
  obtain ⟨it, fp, tn, J, H2, rfl, I2, T, st2, f2, rd⟩ := h2
  have hD : H2 s2.heap.objs.size = none := I2.fresh
  obtain ⟨W, ⟨m0, w0⟩, turn⟩ := rd s2.heap.objs.size hD
  refine wpAny_newList ?_
  have I3 : Inv X pins σ (upd H2 s2.heap.objs.size (.lst [])) { s2 with heap := s2.heap.push { cls := .type "list", data := .seq ([] : List Value).toArray }, toks := s2.toks } := I2.lnew .nil (Nat.zero_le _)
  refine wpAny_newFunctionEnv S.cell (by intro y hy; simp at hy) (fun h₁ hns₁ hsb₁ => ?_) S.kind
  dsimp only at hns₁ hsb₁ ⊢
  generalize hDa : s2.heap.objs.size = D at *
  generalize hs3 : ({ s2 with heap := s2.heap.push { cls := .type "list", data := .seq ([] : List Value).toArray }, toks := s2.toks } : Shared) = s3 at I3
  have e3 : s3.heap = s2.heap.push { cls := .type "list", data := .seq ([] : List Value).toArray } := by rw [← hs3]
  rw [← e3] at hns₁ hsb₁ ⊢
  generalize hC : s3.heap.objs.size = C at *
  have old : ∀ b o, s3.heap.get? b = some o → h₁.get? b = some o := fun b o e => by
    have hb : b ≠ C := by rw [← hC]; exact Nat.ne_of_lt (Heap.lt_size e)
    exact hsb₁.extBut b o hb (Heap.get?_push_of_some _ e)
  have old2 : ∀ b o, s2.heap.get? b = some o → s3.heap.get? b = some o := fun b o e => by rw [e3]; exact Heap.get?_push_of_some _ e
  have f3 : ∀ b ∈ fp, FpOk X pins (upd H2 D (.lst [])) b := fun b hb => by
    obtain ⟨g0, g1⟩ := f2 b hb
    obtain ⟨o, ho, _⟩ := T.obj _ _ st2 b hb
    have : b ≠ D := by rw [← hDa]; exact Nat.ne_of_lt (Heap.lt_size ho)
    exact ⟨by rw [upd_ne this]; exact g0, g1⟩
  have fpC : ∀ b ∈ fp, b < C := fun b hb => by
    obtain ⟨o, ho, _⟩ := T.obj _ _ st2 b hb
    rw [← hC]
    exact Heap.lt_size (old2 b o ho)
  let Y : Cx := cxComp X N scope C fp s3 (upd H2 D (.lst []))
  have sub : ∀ {x : Str} {c : Addr}, Y.env.cells.lookup x = some c → X.env.cells.lookup x = some c := fun {x c} e => cloOf_sub hcells (fun _ _ z => by simp at z) e
  have YOk : Y.Ok := by
    refine ⟨I.ok.mod, S.kind, I.ok.glob, I.ok.blt, Nat.le_of_eq hC, fun x y c e1 e2 => I.ok.inj x y c (sub e1) (sub e2), fun x hx => ?_, fun x c z _ => by simp [Y, cxComp] at z, I.ok.hd, I.ok.frames, .inl rfl, fun b hb => ⟨Nat.ne_of_lt (fpC b hb), fun x c e => (f3 b hb).2.2.2.2.1 x c (sub e)⟩,
      fun b o e => I3.bs b o e, Nat.le_trans I.ok.bsz I3.sz, fun b o e hb => ?_, fun b hb z => ?_, I3.stack, I3.stkFree⟩
    · have : ∃ k0, scope.names.lookup x = some k0 ∧ (k0 = .free ∨ k0 = .cell) := by
        rcases hx with hx | hx
        · obtain ⟨k0, e0, z⟩ := relabel_kind hx
          rcases z with z | z
          · exact ⟨k0, e0, .inr z.symm⟩
          · exact ⟨k0, e0, .inl z.1⟩
        · obtain ⟨k0, e0, z⟩ := relabel_kind hx
          rcases z with z | z
          · exact ⟨k0, e0, .inl z.symm⟩
          · cases z.2
      obtain ⟨k0, e0, z⟩ := this
      rcases z with z | z
      · subst z; exact cloOf_has e0
      · subst z; exact absurd rfl (S.cell _ (PySem.mem_of_lookup e0))
    · rcases (f3 b hb).2.2.2.1 with z | z
      · exact I.ok.noex b o e z
      · exact absurd (Nat.lt_of_lt_of_le (Nat.lt_of_lt_of_le (Heap.lt_size e) I.ok.bsz) z) (Nat.lt_irrefl _)
    · rcases List.mem_cons.mp (I3.stkSub b z) with q | q
      · exact (f3 b hb).2.1 q
      · exact (f3 b hb).2.2.1 q
  have IY : ∀ tk : Nat, Inv Y [] (List.replicate k none ++ capσ σ caps) (upd H2 D (.lst [])) { s3 with heap := h₁, toks := tk } := fun tk => by
    refine ⟨YOk, rfl, I3.bare, Un.kept old, ⟨_, hns₁, fun i x v e1 e2 e3' => ?_⟩, fun x c e => ?_, I3.hok.fresh (Nat.le_of_eq hC), fun x c e => I3.freeC x c (sub e), fun p hp => absurd (show p ∈ ([] : List (Addr × Obj)) from hp) (by simp), I3.hok.kept old, ?_⟩
    · have hik : k ≤ i := by
        by_cases z : i < k
        · rw [List.getElem?_append_left (by simpa using z), List.getElem?_replicate, if_pos z] at e2
          cases e2
        · omega
      obtain ⟨j, rfl⟩ : ∃ j, i = k + j := ⟨i - k, by omega⟩
      rw [List.getElem?_append_right (by simp)] at e2
      simp only [List.length_replicate, Nat.add_sub_cancel_left] at e2
      have e1' : (N.drop k)[j]? = some x := by rw [List.getElem?_drop]; exact e1
      have e4 : ((N.drop k).map some)[j]? = some (some x) := by rw [List.getElem?_map, e1']; rfl
      rw [S.cap, List.getElem?_map] at e4
      unfold capσ at e2
      rw [List.getElem?_map] at e2
      cases hj : caps[j]? with
      | none => rw [hj] at e4; cases e4
      | some q =>
        rw [hj] at e4 e2
        have e5 : X.N[q]? = some x := Option.some.inj e4
        have e6 : (σ[q]?).join = some v := Option.some.inj e2
        have e7 : σ[q]? = some (some v) := by
          cases z : σ[q]? with
          | none => rw [z] at e6; cases e6
          | some y => rw [z] at e6; simp only [Option.join_some] at e6; rw [e6]
        obtain ⟨k1, k2⟩ := S.fre x (List.mem_of_getElem? e1')
        obtain ⟨m3, hn3, hl3⟩ := I3.loc
        obtain ⟨u, ru, lu⟩ := hl3 q x v e5 e7 (by rcases k2 with z | z; exact .inr (.inl z); exact .inr (.inr z))
        refine ⟨u, ru, .inr ⟨relabel_free k1, ?_⟩⟩
        rcases lu with ⟨z, _⟩ | ⟨_, c, hc1, hc2⟩
        · rcases k2 with z' | z' <;> (have z2 : X.env.scope.names.lookup x = some .local := z; rw [z2] at z'; cases z')
        · obtain ⟨c', hc'⟩ := cloOf_has (env := X.env) (acc := []) k1
          have := cloOf_sub hcells (fun _ _ z => by simp at z) hc'
          rw [hc1] at this; cases this
          obtain ⟨oc, h5, h6⟩ := hc2
          exact ⟨c, hc', oc, old c oc h5, h6⟩
    · obtain ⟨v, oc, h5, h6⟩ := I3.cell x c (sub e)
      exact ⟨v, oc, old c oc h5, h6⟩
    · show _ = N.length
      rw [S.len]; simp [capσ]
  have fpY : ∀ {H' : Hp}, (∀ b ∈ fp, H' b = none) → ∀ b ∈ fp, FpOk Y [] H' b := fun hn b hb => ⟨hn b hb, (YOk.exf b hb).1, YOk.exfs b hb, .inl hb, (YOk.exf b hb).2, fun p hp => absurd (show p ∈ ([] : List (Addr × Obj)) from hp) (by simp)⟩
  have hnD : D ≠ C := by rw [← hC, e3, Heap.size_push, hDa]; exact Nat.ne_of_lt (Nat.lt_succ_self _)
  have loop : ∀ s4 : Shared, Inv Y [] (List.replicate k none ++ capσ σ caps) (upd H2 D (.lst [])) s4 → tn 0 s4.heap →
      codeAny (model X.prog X.w) X.A (.compLoop (.ListComp elt [⟨tg, iter, ifs, 0⟩] scope pos) 0 (.ref it) (.ref D) Y.env) (compPost (model X.prog X.w) X.A X.xe none (EP X pins σ Q) (.ref D) C) s4 := by
    intro s4 I4 st4
    refine compLoop_own (fun n s' => ∃ i σ' H' ys, Inv Y [] σ' H' s' ∧ tn i s'.heap ∧ (∀ b ∈ fp, H' b = none) ∧ H' D = some (.lst ys) ∧ W i n ys σ' H') ?_ m0 ⟨0, _, _, [], I4, st4, fun b hb => (f3 b hb).1, upd_same, w0⟩
    rintro n s5 ⟨i, σ5, H5, ys, I5, st5, fr5, d5, w5⟩
    rcases turn i n ys σ5 H5 w5 d5 with ⟨stop, q⟩ | ⟨go, step⟩
    · refine wpAny_mono (T.done Y rfl rfl rfl hc i [] s5 σ5 H5 (fun _ _ => False) I5 (fpY fr5) st5 stop) (fun r s6 ⟨hr, I6⟩ => ?_) fun _ _ z => z
      subst hr
      obtain ⟨m6, hn6, _⟩ := id I6.loc
      refine ⟨m6, hn6, fun h' hs' => ⟨.ref D, H5, ?_, rfl, q⟩⟩
      have un : Un (frs X.stack) fp (upd H2 D (.lst [])) H5 s3.heap h' := by
        have u := I6.base
        have nc : ∀ b o, s3.heap.get? b = some o → b ≠ C := fun b o e => by rw [← hC]; exact Nat.ne_of_lt (Heap.lt_size e)
        refine ⟨fun b o e n hb hx => (hs'.2 b (nc b o e)).trans (u.keep b o e n hb hx), fun b o e n hb hx => ?_, u.free, fun b o e hx => ?_, u.tups, u.frzs, u.tbls⟩
        · obtain ⟨sl, z⟩ := u.slot b o e n hb hx
          exact ⟨sl, (hs'.2 b (nc b o e)).trans z⟩
        · obtain ⟨o', z⟩ := u.there b o e hx
          exact ⟨o', (hs'.2 b (nc b o e)).trans z⟩
      have hok' : HOk X.prog X.w H5 h' := fun b o e => by
        have fC : H5 C = none := I6.free
        refine (I6.hok b o e).stay (fun c v hc' z => (hs'.2 c ?_).trans z) (fun _ z => z) fun _ _ z => z
        rintro rfl
        rcases hc' with z | z
        · rw [← z, fC] at e; cases e
        · rw [fC] at z; cases z
      refine I3.call' (ch := fp) (s' := { s6 with heap := h' }) I6.os un hok' I6.bare fun b hb => ?_
      obtain ⟨g0, g1, g2, g3, g4, g5⟩ := f3 b hb
      exact ⟨g3, g1, g4, g5⟩
    · refine wpAny_mono (T.item Y rfl rfl rfl hc i [] s5 σ5 H5 (fun _ _ => False) I5 (fpY fr5) st5 go) (fun r s6 ⟨u, hr, h6⟩ => ?_) fun _ _ z => z
      subst hr
      refine wpAny_mono h6 (fun _ s7 ⟨x, H7, I7, r7, y7, st7, fr7⟩ => ?_) fun _ _ z => z
      have I7' := I7.pinned (fpY fr7) (T.obj _ _ st7)
      have back : ∀ {σ8 : St} {H8 : Hp} {s8 : Shared}, Inv Y ([] ++ pinsAt fp s7.heap) σ8 H8 s8 → tn (i + 1) s8.heap ∧ ∀ b ∈ fp, H8 b = none := fun {σ8 H8 s8} I8 => by
        refine ⟨T.keep _ _ _ st7 fun b hb o e => (I8.pin (b, o) (List.mem_append_right _ (List.mem_append_right _ (mem_pinsAt hb e)))).1, fun b hb => ?_⟩
        obtain ⟨o, e, _⟩ := T.obj _ _ st7 b hb
        exact (I8.pin (b, o) (List.mem_append_right _ (List.mem_append_right _ (mem_pinsAt hb e)))).2.1
      refine wpAny_mono (hg C fp s3 _ _ s7 σ5 H7 x u _ I7' r7 (step x H7 y7)) (fun _ s8 ⟨σ8, H8, I8, q8⟩ => ?_) fun _ _ z => z
      refine wpAny_mono (ht C fp s3 _ _ s8 σ8 H8 _ I8 q8) (fun ok s9 ⟨H9, I9, q9⟩ => ?_) fun _ _ z => z
      cases ok with
      | false =>
        rw [if_neg Bool.false_ne_true] at q9 ⊢
        obtain ⟨d9, m', hm, w9⟩ := q9
        exact ⟨m', hm, i + 1, σ8, H9, ys, I9.unpinned, (back I9).1, (back I9).2, d9, w9⟩
      | true =>
        rw [if_pos rfl] at q9 ⊢
        refine wpAny_mono (he C fp s3 _ _ s9 σ8 H9 _ I9 q9) (fun y sA ⟨yv, HA, IA, rA, dA, lA, m', hm, wA⟩ => ?_) fun _ _ z => z
        obtain ⟨z, its, n', rits, hl, e⟩ := IA.lstM dA
        refine call_meets F.slot_list_append ⟨_, e, rfl⟩ F.entry_list_append (F.args_list_append_2 _ _) (PySem.list_append D its.toArray n' y (by rw [List.size_toArray]; omega)) ⟨e, ?_⟩
        have IB := IA.lset (its' := its ++ [y]) (f := fun a => a.push y) (t' := sA.toks) dA e (by simp) (rits.append (.cons rA .nil)) (by rw [List.length_append, List.length_singleton]; omega)
        exact ⟨m', hm, i + 1, σ8, _, ys ++ [yv], IB.unpinned, (back IB).1, (back IB).2, upd_same, wA⟩
  have st3 : tn 0 h₁ := T.keep _ _ _ st2 fun b _ o e => old b o (old2 b o e)
  have I5 := IY (s2.toks + ([] : List (Str × Value)).length)
  have es : ({ s3 with heap := h₁, toks := s2.toks + ([] : List (Str × Value)).length } : Shared) = { s2 with heap := h₁, toks := s2.toks + ([] : List (Str × Value)).length } := by rw [← hs3]
  rw [es] at I5
  refine codeAny_compStart_list ?_ ?_
  · exact loop _ I5 st3
  · exact T.self _ 0 _ _ _ st3 (loop _ I5 st3)
end L2

namespace L2
open PySem PySem.Spec PyProof.Rows
section
variable {X : Cx} {pins : List (Addr × Obj)} {σ : St} {H : Hp} {s : Shared}
theorem tyOf_kit {x : V} {u t : Value} (I : Inv X pins σ H s) (rx : RelV x u) (ty : TyOf X.K H x t) : ∃ HP : Heap → Prop, PySem.W.KitX X.K u t HP ∧ HP s.heap ∧ u ≠ .builtin "__main__.__loader__#opaque" := by
  cases ty with
  | non => cases (show u = Value.none from rx); exact ⟨_, PySem.W.kitx_none, True.intro, fun z => nomatch z⟩
  | bl y => cases (show u = Value.bool y from rx); exact ⟨_, PySem.W.kitx_bool, True.intro, fun z => nomatch z⟩
  | int i => obtain ⟨t, q⟩ := (show ∃ t, u = Value.int i t from rx); cases q; exact ⟨_, PySem.W.kitx_int, True.intro, fun z => nomatch z⟩
  | str y => obtain ⟨t, q⟩ := (show ∃ t, u = Value.str y t from rx); cases q; exact ⟨_, PySem.W.kitx_str, True.intro, fun z => nomatch z⟩
  | flt y => obtain ⟨t, q⟩ := (show ∃ t, u = Value.float y t from rx); cases q; exact ⟨_, PySem.W.kitx_float, True.intro, fun z => nomatch z⟩
  | @lst a xs ea =>
    cases (show u = Value.ref a from rx)
    obtain ⟨_, _, n, _, h1⟩ := (show ObjOk X.prog X.w H s.heap a (.lst xs) from I.hok a _ ea)
    exact ⟨_, PySem.W.kitx_list, ⟨_, h1, rfl⟩, fun z => nomatch z⟩
  | @frz a ob xs ea =>
    cases (show u = Value.ref a from rx)
    obtain ⟨_, _, _, n, _, h1⟩ := (show ObjOk X.prog X.w H s.heap a (.frz ob (.lst xs)) from I.hok a _ ea)
    exact ⟨_, PySem.W.kitx_list, ⟨_, h1, rfl⟩, fun z => nomatch z⟩
  | @tup a xs ea =>
    cases (show u = Value.ref a from rx)
    obtain ⟨_, _, _, p⟩ := (show ObjOk X.prog X.w H s.heap a (.tup xs) from I.hok a _ ea)
    obtain ⟨o, h1, h2, _⟩ := p
    exact ⟨_, PySem.W.kitx_tuple, ⟨o, h1, h2⟩, fun z => nomatch z⟩
  | @dK a kvs ea =>
    cases (show u = Value.ref a from rx)
    obtain ⟨_, _, vs, _, p⟩ := (show ObjOk X.prog X.w H s.heap a (.dK kvs) from I.hok a _ ea)
    obtain ⟨o, es, ep, h1, h2, _⟩ := p
    exact ⟨_, PySem.W.kitx_dict, ⟨o, h1, h2.1⟩, fun z => nomatch z⟩
  | @dT a kvs ea =>
    cases (show u = Value.ref a from rx)
    obtain ⟨_, _, xs, _, o, es, ep, h1, h2, _⟩ := (show ObjOk X.prog X.w H s.heap a (.dT kvs) from I.hok a _ ea)
    exact ⟨_, PySem.W.kitx_dict, ⟨o, h1, h2.1⟩, fun z => nomatch z⟩
  | @ins a C dx fs ea cl ha hn htk hm =>
    cases (show u = Value.ref a from rx)
    obtain ⟨mA, O, _⟩ := ins_get I.hok ea
    obtain ⟨od, J, _⟩ := O.look
    exact ⟨_, PySem.W.kitx_own (cl.get _) cl.hd ha hn htk hm, J, fun z => nomatch z⟩
def rIsI (K : PySem.W.Frag) : List V → Hp → VK → Prop := fun xs H Q => ∃ x y t, xs = [x, y] ∧ TyOf K H x t ∧
  ((∃ n b, y = .ty n ∧ PySem.W.kitOne K t (.type n) = some b ∧ Q (.bl b) H) ∨
   ∃ (p : Addr) (ns : List String) (b : Bool), y = .ref p ∧ H p = some (.tup (ns.map V.ty)) ∧ PySem.W.kitAny K t (ns.map Value.type) = some b ∧ Q (.bl b) H)
theorem vals_ty : ∀ {ns : List String} {us : List Value}, Vals (ns.map V.ty) us → us = ns.map Value.type
  | [], _, .nil => rfl
  | n :: ns, _, .cons r t => by
    cases (show _ = Value.type n from r)
    rw [vals_ty t]; rfl
theorem call_isi : CallR X (.builtin "isinstance") (rIsI X.K) := by
  intro pins s σ H xs us Q I r h
  obtain ⟨x, y, t, rfl, ty, h⟩ := h
  obtain ⟨u, v, rfl, ru, rv⟩ := vals2 r
  obtain ⟨HP, kx, hp, hx⟩ := tyOf_kit I ru ty
  rcases h with ⟨n, b, rfl, e, q⟩ | ⟨p, ns, b, rfl, hH, e, q⟩
  · cases (show v = Value.type n from rv)
    exact PySem.W.kia_one kx I.kIn hp e hx fun tk => ⟨.bl b, H, I.tok tk, rfl, q⟩
  · cases (show v = Value.ref p from rv)
    obtain ⟨_, its, ri, ⟨cls, dd, data, sl⟩, ho, hc, n, hd⟩ := (show ObjOk X.prog X.w H s.heap p (.tup (ns.map V.ty)) from I.hok p _ hH)
    simp only at hc hd
    subst hc hd
    have ei := vals_ty ri
    subst ei
    exact PySem.W.kia_tup kx I.kIn hp ho e hx fun tk => ⟨.bl b, H, I.tok tk, rfl, q⟩

theorem all_get (bs : List Bool) : ((List.range bs.length).all fun j => (bs[j]?).getD true) = bs.all id := by
  have h := all_rangeD bs id
  rw [← h]
  refine congrArg (fun f => (List.range bs.length).all f) (funext fun j => ?_)
  cases bs[j]? <;> rfl
theorem call_allL (hc : X.calm = true) : CallR X (.builtin "all") (fun xs H Q => ∃ (p : Addr) (bs : List Bool), xs = [.ref p] ∧ SqL X.K H p (bs.map V.bl) ∧ Q (.bl (bs.all id)) H) := by
  intro pins s σ H xs us Q I r h
  obtain ⟨p, bs, rfl, hq, q⟩ := h
  obtain ⟨u, rfl, ru⟩ := vals1 r
  cases (show u = Value.ref p from ru)
  obtain ⟨its, rv, pl, hz⟩ := I.list hq
  have hlen : its.length = bs.length := by rw [← rv.length, List.length_map]
  refine call_all_walk (wpAny_pyIter_list pl.isList ?_)
  have hne : p ≠ s.heap.objs.size := Nat.ne_of_lt (by obtain ⟨o, n, e, _⟩ := pl; exact Heap.lt_size e)
  refine ⟨s.heap.objs.size, _, _, _, _, _, fun j => (bs[j]?).getD true, rfl, Walks.list (A := X.A.in1) (I.ok.hd hc) s.heap.objs.size p hne its.toArray, ⟨⟨_, Heap.get?_push_size _ rfl, rfl, rfl⟩, ?_⟩, ?_, fun h' tk hk => ?_⟩
  · obtain ⟨o, n, e, h1, h2, h3⟩ := pl
    exact ⟨o, Heap.get?_push_of_some _ e, h1, n, h3⟩
  · intro i v s2 Q2 E2 hP hQ
    have hP' : its[i]? = some v := by simpa using hP
    cases hb : bs[i]? with
    | none =>
      have : its.length ≤ i := by rw [hlen]; exact List.getElem?_eq_none_iff.mp hb
      rw [List.getElem?_eq_none_iff.mpr this] at hP'; cases hP'
    | some b =>
      obtain ⟨u', hu', ru'⟩ := rv.get (i := i) (x := .bl b) (by rw [List.getElem?_map, hb]; rfl)
      rw [hP'] at hu'; cases hu'
      cases (show v = Value.bool b from ru')
      dsimp only at hQ
      rw [hb] at hQ
      exact wpAny_truthy_bool hQ
  · refine ⟨.bl (bs.all id), H, I.kept (t' := tk) (h' := h') fun b o e => hk b o (by simp; exact Nat.ne_of_lt (Heap.lt_size e)) (Heap.get?_push_of_some _ e), ?_, q⟩
    show Value.bool _ = Value.bool _
    rw [List.size_toArray, hlen, all_get]

theorem call_rangeV : CallR X (.type "range") (fun xs H Q => (∃ a b, xs = [.int a, .int b] ∧ ∀ p, H p = none → Q (.ref p) (upd H p (.rng a b))) ∨ ∃ b, xs = [.int b] ∧ ∀ p, H p = none → Q (.ref p) (upd H p (.rng 0 b))) := by
  intro pins s σ H xs us Q I r h
  rcases h with ⟨a, b, rfl, q⟩ | ⟨b, rfl, q⟩
  · obtain ⟨u, v, rfl, ⟨t, rfl⟩, ⟨t', rfl⟩⟩ := vals2 r
    exact call_range_2 ⟨.ref s.heap.objs.size, _, I.laid (t' := s.toks + 1) (o := .rng a b) (fun b o e => Heap.get?_push_of_some _ e) (Nat.le_refl _) ⟨_, _, _, Heap.get?_push_size _ rfl⟩, rfl, q _ I.fresh⟩
  · obtain ⟨u, rfl, ⟨t, rfl⟩⟩ := vals1 r
    exact call_range_1 ⟨.ref s.heap.objs.size, _, I.laid (t' := s.toks + 1 + 1) (o := .rng 0 b) (fun b o e => Heap.get?_push_of_some _ e) (Nat.le_refl _) ⟨_, _, _, Heap.get?_push_size _ rfl⟩, rfl, q _ I.fresh⟩
def rangeV (lo : Int) (n : Nat) : List V := (List.range n).map fun (i : Nat) => V.int (lo + i)
theorem vals_items {P : Nat → Value → Prop} {g : Nat → V} {acc : Array Value} {n : Nat} (h : ItemsOf P acc n) (hp : ∀ i v, P i v → RelV (g i) v) : Vals ((List.range n).map g) acc.toList := by
  obtain ⟨hn, hi⟩ := h
  have key : ∀ (l : List Value) (k : Nat), (∀ j v, l[j]? = some v → RelV (g (k + j)) v) → Vals ((List.range' k l.length).map g) l := by
    intro l
    induction l with
    | nil => intro k _; exact .nil
    | cons x r ih =>
      intro k hk
      rw [List.length_cons, List.range'_succ, List.map_cons]
      refine .cons (by simpa using hk 0 x rfl) (ih (k + 1) fun j v e => ?_)
      have := hk (j + 1) v (by simpa using e)
      rwa [show k + (j + 1) = k + 1 + j by omega] at this
  have := key acc.toList 0 fun j v e => by rw [Nat.zero_add]; exact hp j v (hi j v (by simpa using e))
  rw [Array.length_toList, hn, ← List.range_eq_range'] at this
  exact this
theorem call_listR (hc : X.calm = true) : CallR X (.type "list") (fun xs H Q => ∃ p lo hi, xs = [.ref p] ∧ H p = some (.rng lo hi) ∧ -(2 ^ 62) ≤ lo ∧ lo < 2 ^ 62 ∧ -(2 ^ 62) ≤ hi ∧ hi < 2 ^ 62 ∧ (hi - lo).toNat ≤ 2 ^ 24 ∧
    ∀ l, H l = none → Q (.ref l) (upd H l (.lst (rangeV lo (hi - lo).toNat)))) := by
  intro pins s σ H xs us Q I r h
  obtain ⟨p, lo, hi, rfl, hH, h1, h2, h3, h4, h5, q⟩ := h
  obtain ⟨u, rfl, ru⟩ := vals1 r
  cases (show u = Value.ref p from ru)
  obtain ⟨t, u, v, e⟩ := (show ObjOk X.prog X.w H s.heap p (.rng lo hi) from I.hok p _ hH)
  refine call_list_range (n := (hi - lo).toNat) (I.ok.hd hc) (show IsRange s.heap p lo hi 1 t u v from e) (small_one h1 h2 h3 h4) (by rw [rangeSize_one]; split <;> omega) h5 fun h' tk acc' c' hk hS hacc => ?_
  refine ⟨.ref s.heap.objs.size, _, I.laid (t' := tk) (h' := h') (o := .lst (rangeV lo (hi - lo).toNat)) hk (Nat.le_refl _) ⟨?_, acc'.toList, c', ?_, by simpa using hS⟩, rfl, q _ I.fresh⟩
  · unfold rangeV; rw [List.length_map, List.length_range]
    exact Nat.le_trans h5 (by rw [sizeLine_eq]; decide)
  · exact vals_items hacc fun i v ⟨t, e⟩ => ⟨t, by rw [e]; simp⟩

theorem call_sortedI : CallR X (.builtin "sorted") (fun xs H Q => ∃ (p : Addr) (ns : List Int), xs = [.ref p] ∧ SqL X.K H p (ns.map V.int) ∧ ns.length < 64 ∧
    ∀ (ns' : List Int) l, ns'.Perm ns → ns'.Pairwise (· ≤ ·) → H l = none → Q (.ref l) (upd H l (.lst (ns'.map V.int)))) := by
  intro pins s σ H xs us Q I r h
  obtain ⟨p, ns, rfl, hq, h64, q⟩ := h
  obtain ⟨u, rfl, ru⟩ := vals1 r
  cases (show u = Value.ref p from ru)
  obtain ⟨its, rv, pl, hz⟩ := I.list hq
  have hlen : its.length = ns.length := by rw [← rv.length, List.length_map]
  refine sorted_ints pl.isList (intsAre_of rv) (by rw [hlen]; exact h64) fun out ns' a1 a2 a3 => ?_
  obtain ⟨c, hc⟩ := sortedAll_at s.heap its out
  have hn : H (s.heap.objs.size + 1) = none := I.hok.fresh (Nat.le_succ _)
  refine ⟨.ref (s.heap.objs.size + 1), _, I.laid (t' := s.toks) (h' := sortedAll s.heap its out) (o := .lst (ns'.map V.int)) (fun b o e => sortedAll_old e) (Nat.le_succ _) ⟨?_, out.toList, c, vals_ints a1, ?_⟩, rfl, q ns' _ a2 a3 hn⟩
  · rw [List.length_map, a2.length_eq]
    exact Nat.le_of_lt (Nat.lt_of_lt_of_le h64 (by rw [sizeLine_eq]; decide))
  · simpa [seqObj] using hc
end
end L2

namespace L2
open PySem PySem.Spec PyProof.Rows
section
variable {prog : Program} {w : World} {A : Around} {R : Result → Shared → Prop} {E : Value → Shared → Prop} {s : Shared}
theorem args_sum2 (a b : Value) : argsOk "sum" ⟨[a, b], []⟩ := by unfold argsOk; kernel_rfl
theorem sub_tup_str : isSubtype (.type "tuple") (.type "str") = pure false := by rw [isSubtype_type]; kernel_rfl
theorem sub_tup_bytes : isSubtype (.type "tuple") (.type "bytes") = pure false := by rw [isSubtype_type]; kernel_rfl
theorem sub_tup_bytearray : isSubtype (.type "tuple") (.type "bytearray") = pure false := by rw [isSubtype_type]; kernel_rfl
theorem cat_tup0 {t b : Addr} {ws : List Value} {Q : Value → Shared → Prop} (ht : IsTup s.heap t #[]) (hb : IsTup s.heap b ws.toArray) (h1 : Q (.ref b) s) : wpAny (model prog w) A (binaryOp .Add (.ref t) (.ref b)) Q E s := by
  obtain ⟨⟨cls, dd, data, sl⟩, ho, hc, n, hd⟩ := id ht
  obtain ⟨⟨cls2, dd2, data2, sl2⟩, ho2, hc2, n2, hd2⟩ := id hb
  simp only at hc hd hc2 hd2
  subst hc hd hc2 hd2
  exact concat_meets ⟨_, ho, rfl⟩ ⟨_, ho2, rfl⟩ noFill_tuple_add seq_tuple_add PySem.F.slot_tuple_add PySem.F.entry_tuple_add (PySem.F.args_tuple_add_2 _ _)
      (tuple_addW0 t b #[] ws.toArray n n2 dd dd2 sl sl2 rfl) ⟨ho, ho2, h1⟩
theorem sum_end {I ax S T : Addr} {items : Array Value} {i c : Nat} (hh : A.handled = none) (hit : s.heap.IsListIter I ax i) (hl : s.heap.IsList ax items) (hx : items[i]? = none) (hS : s.heap.get? S = some { cls := .type "list", dict := none, data := .seq #[.ref T] c, slots := #[] })
    (hR : ∀ h', Heap.ExtBut I s.heap h' → R (.ok (.ret (.ref T))) { s with heap := h' }) : codeAny (model prog w) A (.builtin "sum.loop" ⟨[.ref I, .ref S, rawInt 2, rawInt 0], []⟩) R s := by
  refine codeAny_builtin PySem.F.entry_sum_loop ?_
  rw [Around.under_plainId PySem.F.plain_sum_loop _]
  show wpAny _ A.in1 (seqItems? (.ref S) >>= _) _ _ s
  refine wpAny_bind (wpAny_seqItems hS rfl ?_)
  show wpAny _ A.in1 (tryCatch (pyNext (.ref I)) _ >>= _) _ _ s
  refine wpAny_bind (wpAny_tryCatch (wpAny_pyNext_list_end (A := A.in1) hh hit hl hx fun h' he => ?_))
  exact wpAny_pure (hR h' he)
theorem sum_step {I ax S T t : Addr} {items : Array Value} {ws : List Value} {i c : Nat} (hit : s.heap.IsListIter I ax i) (hl : s.heap.IsList ax items) (hx : items[i]? = some (.ref t)) (hS : s.heap.get? S = some { cls := .type "list", dict := none, data := .seq #[.ref T] c, slots := #[] })
    (hT : IsTup s.heap T #[]) (ht : IsTup s.heap t ws.toArray) (n1 : S ≠ I) (n2 : T ≠ I) (n3 : t ≠ I) (n4 : ax ≠ I) (m1 : ax ≠ S)
    (hR : ∀ h' c', (∀ b o, b ≠ I → b ≠ S → s.heap.get? b = some o → h'.get? b = some o) → h'.IsListIter I ax (i + 1) → h'.IsList ax items → h'.get? S = some { cls := .type "list", dict := none, data := .seq #[.ref t] c', slots := #[] } →
      codeAny (model prog w) A (.builtin "sum.loop" ⟨[.ref I, .ref S, rawInt 2, rawInt 0], []⟩) R { s with heap := h' }) : codeAny (model prog w) A (.builtin "sum.loop" ⟨[.ref I, .ref S, rawInt 2, rawInt 0], []⟩) R s := by
  refine codeAny_builtin PySem.F.entry_sum_loop ?_
  rw [Around.under_plainId PySem.F.plain_sum_loop _]
  show wpAny _ A.in1 (seqItems? (.ref S) >>= _) _ _ s
  refine wpAny_bind (wpAny_seqItems hS rfl ?_)
  show wpAny _ A.in1 (tryCatch (pyNext (.ref I)) _ >>= _) _ _ s
  refine wpAny_bind (wpAny_tryCatch (wpAny_pyNext_list_item hit hl hx fun h1 hit1 hs1 => ?_))
  have up : ∀ b o, b ≠ I → s.heap.get? b = some o → h1.get? b = some o := fun b o hb e => hs1.extBut b o hb e
  have hS1 := up S _ n1 hS
  have hT1 : IsTup h1 T #[] := by obtain ⟨o, e, r⟩ := hT; exact ⟨o, up T o n2 e, r⟩
  have ht1 : IsTup h1 t ws.toArray := by obtain ⟨o, e, r⟩ := ht; exact ⟨o, up t o n3 e, r⟩
  have hl1 : h1.IsList ax items := by obtain ⟨o, e, r⟩ := hl; exact ⟨o, up ax o n4 e, r⟩
  show wpAny _ A.in1 (Sem.attempt (holding [.ref t] (binaryOp .Add (.ref T) (.ref t))) >>= _) _ _ _
  refine wpAny_bind (wpAny_attempt (wpAny_holding (cat_tup0 (s := { s with heap := h1 }) hT1 ht1 ?_)))
  show wpAny _ A.in1 (updateSeq S (fun _ => #[.ref t]) >>= _) _ _ _
  refine wpAny_bind (wpAny_updateSeq hS1 rfl ?_)
  refine wpAny_bind (wpAny_letGo ?_)
  have hS2 := Heap.get?_update_self (Obj.mapSeq (fun _ => #[Value.ref t])) hS1 rfl
  show wpAny _ A.in1 (updateSeq S (fun _ => #[.ref t]) >>= _) _ _ _
  refine wpAny_bind (wpAny_updateSeq hS2 rfl ?_)
  have hS3 := Heap.get?_update_self (Obj.mapSeq (fun _ => #[Value.ref t])) hS2 rfl
  have oth : ∀ b o, b ≠ S → h1.get? b = some o → ((h1.update S (Obj.mapSeq fun _ => #[Value.ref t])).update S (Obj.mapSeq fun _ => #[Value.ref t])).get? b = some o := fun b o hb e =>
    (Heap.get?_update_other _ _ (Ne.symm hb)).trans ((Heap.get?_update_other _ _ (Ne.symm hb)).trans e)
  refine wpAny_pure ⟨plainId_quiet PySem.F.plain_sum_loop _, hR _ _ (fun b o hb hbS e => oth b o hbS (up b o hb e)) ?_ ?_ hS3⟩
  · obtain ⟨o, e, r⟩ := hit1
    exact ⟨o, oth I o (Ne.symm n1) e, r⟩
  · obtain ⟨o, e, r⟩ := hl1
    exact ⟨o, oth ax o m1 e, r⟩
end
section
variable {X : Cx}
theorem call_sumT (hc : X.calm = true) : CallR X (.builtin "sum") (fun xs H Q => ∃ p q, xs = [.ref p, .ref q] ∧ SqT X.K H q [] ∧ ((SqL X.K H p [] ∧ Q (.ref q) H) ∨ ∃ t zs, SqL X.K H p [.ref t] ∧ SqT X.K H t zs ∧ Q (.ref t) H)) := by
  intro pins s σ H xs us Q I r h
  obtain ⟨p, q, rfl, hq, h⟩ := h
  obtain ⟨u, v, rfl, ru, rv⟩ := vals2 r
  cases (show u = Value.ref p from ru)
  cases (show v = Value.ref q from rv)
  obtain ⟨itq, rq, tq, _⟩ := I.tuple hq
  cases rq
  have hsq : ∃ ys, SqL X.K H p ys := by rcases h with ⟨h, _⟩ | ⟨t, zs, h, _⟩ <;> exact ⟨_, h⟩
  obtain ⟨ys, hys⟩ := hsq
  obtain ⟨its, ry, pl, _⟩ := I.list hys
  have hp : p < s.heap.objs.size := by obtain ⟨o, n, e, _⟩ := pl; exact Heap.lt_size e
  have hql : q < s.heap.objs.size := by obtain ⟨o, e, _⟩ := tq; exact Heap.lt_size e
  refine call_function_tree PySem.F.kind_sum PySem.F.plain_sum PySem.F.entry_sum (args_sum2 _ _) ?_
  unfold Builtin.«sum»
  simp only [List.length_cons, List.length_nil]
  rw [if_neg (by decide)]
  refine wpAny_bind (wpAny_of_eq (show Builtin.Builtins.bindParams "sum" ["start"] 0 ⟨[Value.ref q], []⟩ = pure [some (.ref q)] from rfl) ?_)
  refine wpAny_bind (wpAny_pyIter_list pl.isList ?_)
  refine wpAny_bind (wpAny_pure ?_)
  simp only [List.forIn_cons, List.forIn_nil]
  have ty : Shared.TypeIs { s with heap := s.heap.push { cls := .type "list_iterator", data := .fields #[.ref p, .int 0 0] } } (.ref q) "tuple" := by
    obtain ⟨o, e, hc', _⟩ := tq
    exact ⟨o, Heap.get?_push_of_some _ e, hc'⟩
  refine wpAny_bind (wpAny_bind (wpAny_bind (wpAny_isInstance (T := "tuple") (b := false) ty sub_tup_str ?_)))
  simp only [Bool.false_eq_true, if_false]
  refine wpAny_pure (wpAny_bind (wpAny_bind (wpAny_isInstance (T := "tuple") (b := false) ty sub_tup_bytes ?_)))
  simp only [Bool.false_eq_true, if_false]
  refine wpAny_pure (wpAny_bind (wpAny_bind (wpAny_isInstance (T := "tuple") (b := false) ty sub_tup_bytearray ?_)))
  simp only [Bool.false_eq_true, if_false]
  refine wpAny_pure (wpAny_pure ?_)
  refine wpAny_bind (wpAny_newObj_type ?_)
  dsimp only
  generalize hI : s.heap.objs.size = It at *
  have hS' : (s.heap.push { cls := .type "list_iterator", data := .fields #[.ref p, .int 0 0] }).objs.size = It + 1 := by rw [Heap.size_push, hI]
  rw [hS']
  generalize hH : (s.heap.push { cls := .type "list_iterator", data := .fields #[.ref p, .int 0 0] }).push { cls := .type "list", data := .seq ([Value.ref q] : List Value).toArray } = h2
  have old : ∀ b o, s.heap.get? b = some o → h2.get? b = some o := fun b o e => by rw [← hH]; exact Heap.get?_push_of_some _ (Heap.get?_push_of_some _ e)
  have hit : h2.IsListIter It p 0 := by rw [← hH, ← hI]; exact ⟨_, Heap.get?_push_of_some _ (Heap.get?_push_size _ rfl), rfl, rfl⟩
  have hst : h2.get? (It + 1) = some { cls := .type "list", dict := none, data := .seq #[.ref q] 0, slots := #[] } := by rw [← hH, ← hS']; exact Heap.get?_push_size _ rfl
  have hl : h2.IsList p its.toArray := by obtain ⟨o, n, e, a1, a2, a3⟩ := pl; exact ⟨o, old p o e, a1, n, a3⟩
  have hh : X.A.handled = none := I.ok.hd hc
  refine wpAny_pure ⟨plainId_quiet PySem.F.plain_sum_loop _, ?_⟩
  rcases h with ⟨h1, q1⟩ | ⟨t, zs, h1, h2', q1⟩
  · have e := I.list_inj hys h1
    subst e
    cases ry
    refine sum_end (s := { s with heap := h2 }) hh hit hl rfl hst fun h' he => ?_
    refine ⟨.ref q, H, I.kept (t' := s.toks) (h' := h') fun b o e => he b o ?_ (old b o e), rfl, q1⟩
    rw [← hI]; exact Nat.ne_of_lt (Heap.lt_size e)
  · have e := I.list_inj hys h1
    subst e
    obtain ⟨u, rfl, ru⟩ := vals1 ry
    cases (show u = Value.ref t from ru)
    obtain ⟨its2, r2, tt, _⟩ := I.tuple h2'
    have htl : t < s.heap.objs.size := by obtain ⟨o, e, _⟩ := tt; exact Heap.lt_size e
    have nl : ∀ (b : Nat), b < It → b ≠ It ∧ b ≠ It + 1 := fun b hb => ⟨by omega, by omega⟩
    have htl' : (t : Nat) < It := by rw [← hI]; exact htl
    have hT2 : IsTup h2 q #[] := by obtain ⟨o, e, r⟩ := tq; exact ⟨o, old q o e, r⟩
    have ht2 : IsTup h2 t its2.toArray := by obtain ⟨o, e, r⟩ := tt; exact ⟨o, old t o e, r⟩
    refine sum_step (s := { s with heap := h2 }) hit hl rfl hst hT2 ht2 (Nat.succ_ne_self It) (nl q hql).1 (nl t htl').1 (nl p hp).1 (nl p hp).2 fun h3 c' k3 it3 l3 s3 => ?_
    refine sum_end (s := { s with heap := h3 }) hh it3 l3 rfl s3 fun h' he => ?_
    refine ⟨.ref t, H, I.kept (t' := s.toks) (h' := h') fun b o e => he b o ?_ (k3 b o ?_ ?_ (old b o e)), rfl, q1⟩ <;>
    · have z : (b : Nat) < It := by rw [← hI]; exact Heap.lt_size e
      first | exact (nl b z).1 | exact (nl b z).2
end
end L2

namespace L2
open PySem PySem.Spec PyProof.Rows
def KDict (P : Program) (w : World) (K : PySem.W.Frag) (a : Addr) (kvs : List (Key × V)) : Prop :=
  (a == sysModules) = false ∧ ∃ o vs, K.lookup a = some o ∧ o.IsDictOf (mixKind P w) vs ∧ KV kvs vs
section
variable {X : Cx} {x : Str} {p pos apos cpos : Pos} {e : Expr} {ty : TE} {a : Addr} {kvs : List (Key × V)}
theorem pe_globI {i : Int} (h : ∃ t, X.mg x = some (.int i t)) (hg : Gl X x := by rfl) (hd : (x == ("__debug__" : Str)) = false := by decide) : PE X (.Name x pos) (tC (.int i)) := by
  obtain ⟨t, h⟩ := h
  exact pe_glob hg h ⟨t, rfl⟩ hd
theorem pe_ty {n : String} (hv : bootBuiltins x = some (.type n)) (hm : X.mg x = none) (hg : Gl X x := by rfl) (hn : x ≠ "__name__" := by decide) (hd : (x == ("__debug__" : Str)) = false := by decide) : PE X (.Name x pos) (tC (.ty n)) := pe_bltn hg hm hv rfl hn hd
def tKGet (kvs : List (Key × V)) (ty : TE) : TE := fun σ H Q => ty σ H fun y H2 => ∃ k : Key, y = kV k ∧ Q ((valV kvs k).getD .non) H2
theorem pe_kget1 (D : KDict X.prog X.w X.K a kvs) (hg : Gl X x) (hmg : X.mg x = some (.ref a)) (he : PE X e ty) (m : M1 X (.Name x p) "get" apos e cpos) (hd : (x == ("__debug__" : Str)) = false := by decide) :
    PE X (.Call (.Attribute (.Name x p) "get" apos) [e] [] cpos) (tKGet kvs ty) := by
  intro pins s σ H Q I h
  obtain ⟨hs, o, vs, ho, io, rel⟩ := D
  have ho' : PE X (.Name x p) (tC (.ref a)) := pe_glob hg hmg rfl hd
  have dOf : ∀ {s' : Shared} {H' : Hp} {pins' σ'}, Inv X pins' σ' H' s' → s'.heap.DictOf (mixKind X.prog X.w) a vs := fun I' => Heap.dictOf_iff.mpr ⟨o, I'.kIn a o ho, io⟩
  refine wpAny_Call_method m.base m.few m.line PySem.F.plainAttrs_dict PySem.F.slot_dict_get PySem.F.type_dict_get (thn (ho' pins s σ H (fun y H1 => y = .ref a ∧ ty σ H1 fun y H2 => ∃ k : Key, y = kV k ∧ Q ((valV kvs k).getD .non) H2) I ⟨rfl, h⟩) fun u s1 ⟨y, H1, I1, rx, ey, q1⟩ => ?_)
  subst ey
  obtain rfl : u = Value.ref a := rx
  refine ⟨(dOf I1).typeIs, fun b q => by cases q; exact ⟨o, I1.kIn a o ho, io.choose_spec.choose_spec.1.2.1⟩, ?_⟩
  rw [m.trees]
  refine Calls.callWith_builtin rfl (Calls.evalArgs_plain (Calls.spliced_cons (thn (he pins s1 σ H1 _ I1 q1) fun iv s2 ⟨y, H2, I2, ry, k, ek, q2⟩ => Calls.spliced_nil ?_)))
  subst ek
  refine call_meetsIn PySem.F.slot_dict_get (dOf I2).typeIs PySem.F.entry_dict_get (PySem.F.args_dict_get_2 _ _) (meets_dict_get (mixKind X.prog X.w) a (kV_is ry) hs) ⟨_, (dOf I2).mapOf, ⟨_, H2, I2.tok _, ?_, q2⟩⟩
  exact (rel.val k).getD rfl
theorem kdict_mk {P : Program} {w : World} {K : PySem.W.Frag} {a : Addr} (ks : List (Str × Tok × Int × Tok)) {ep : Nat} (hs : (a == sysModules) = false) (l : K.lookup a = some { cls := .type "dict", data := .dict (ks.map fun q => (⟨PyData.keyHash w.params q.1, .str q.1 q.2.1, .int q.2.2.1 q.2.2.2⟩ : DictEntry)).toArray ep })
    (nd : ((ks.map fun q => (Sum.inr q.1 : Key))).Nodup) : KDict P w K a (ks.map fun q => (Sum.inr q.1, .int q.2.2.1)) := by
  refine ⟨hs, _, ks.map fun q => (Sum.inr q.1, .int q.2.2.1 q.2.2.2), l, ⟨_, ep, ⟨rfl, rfl, rfl⟩, rfl, fun e he => ?_, ?_, ?_⟩, ?_⟩
  · simp only [List.mem_toArray, List.mem_map] at he
    obtain ⟨q, _, rfl⟩ := he
    exact ⟨Sum.inr q.1, keyIs_str q.1 q.2.1, rfl⟩
  · rw [List.toList_toArray]
    clear l nd
    induction ks with
    | nil => exact .nil
    | cons q r ih => exact .cons (keyIs_str q.1 q.2.1) rfl ih
  · rw [List.map_map]; exact nd
  · clear l nd
    induction ks with
    | nil => exact .nil
    | cons q r ih => exact .cons ⟨rfl, ⟨_, rfl⟩⟩ ih
end
end L2

namespace L2
open PySem PySem.Spec PyProof.Rows
theorem bt_abs : bootBuiltins "abs" = some (.builtin "abs") := by decide +kernel
theorem bt_all : bootBuiltins "all" = some (.builtin "all") := by decide +kernel
theorem bt_sum : bootBuiltins "sum" = some (.builtin "sum") := by decide +kernel
theorem bt_sorted : bootBuiltins "sorted" = some (.builtin "sorted") := by decide +kernel
theorem bt_isinstance : bootBuiltins "isinstance" = some (.builtin "isinstance") := by decide +kernel
theorem bt_range : bootBuiltins "range" = some (.type "range") := by decide +kernel
theorem bt_list : bootBuiltins "list" = some (.type "list") := by decide +kernel
theorem bt_tuple : bootBuiltins "tuple" = some (.type "tuple") := by decide +kernel
theorem bt_int : bootBuiltins "int" = some (.type "int") := by decide +kernel
theorem bt_bool : bootBuiltins "bool" = some (.type "bool") := by decide +kernel
theorem bt_str : bootBuiltins "str" = some (.type "str") := by decide +kernel

structure FnAt (P : Program) (w : World) (K : PySem.W.Frag) (mg : Str → Option Value) (base : Heap) (x : Str) (k : Nat) (sp : Sp) : Prop where
  ex : ∃ f fd ps, FnOk P w K mg base CX0 k f fd ps sp ∧ Binds K fd ps [] ∧ mg x = some (.ref f) ∧ PySem.W.keepIn K (.ref f) = true
theorem FnAt.mono {P : Program} {w : World} {K : PySem.W.Frag} {mg : Str → Option Value} {base : Heap} {x : Str} {j k : Nat} {sp : Sp} (F : FnAt P w K mg base x j sp) (h : j ≤ k) : FnAt P w K mg base x k sp := by
  obtain ⟨f, fd, ps, a, b, c, d⟩ := F.ex
  exact ⟨f, fd, ps, a.mono h, b, c, d⟩
section
variable {X : Cx} {x : Str} {k : Nat} {sp : Sp} {p pos : Pos} {e : Expr} {es : List Expr} {t : TA}
theorem pe_fn (F : FnAt X.prog X.w X.K X.mg X.base x k sp) (hr : Room k X.A) (ha : PA X (e :: es) t) (hg : Gl X x := by rfl) (hdb : (x == ("__debug__" : Str)) = false := by decide) (he : starEach (e :: es) X.env = (false, eval e X.env) :: starEach es X.env := by rfl)
    (hpl : (backTo pos (starEach es X.env)).any (·.1) = false := by rfl) : PE X (.Call (.Name x p) (e :: es) [] pos) (tCall sp [] E0 t) := by
  obtain ⟨f, fd, ps, a, b, c, d⟩ := F.ex
  exact pe_call (hdb := hdb) (he := he) (hpl := hpl) a hr hg c d b .nil pass0 ha
end

inductive D where
  | non | bl (b : Bool) | int (i : Int) | str (x : Str) | lst (ds : List D) | tup (ds : List D)
def Den (H : Hp) : Nat → D → V → Prop
  | 0, _, _ => False
  | n + 1, d, v => match d with
    | .non => v = .non
    | .bl b => v = .bl b
    | .int i => v = .int i
    | .str x => v = .str x
    | .lst ds => ∃ a xs, v = .ref a ∧ H a = some (.lst xs) ∧ ds.length ≤ 1000 ∧ Paired (Den H n) ds xs
    | .tup ds => ∃ a xs, v = .ref a ∧ H a = some (.tup xs) ∧ ds.length ≤ 1000 ∧ Paired (Den H n) ds xs
theorem Den.mono {H H' : Hp} (s : Same H H') : ∀ {n : Nat} {d : D} {v : V}, Den H n d v → Den H' n d v
  | 0, _, _, h => h
  | n + 1, d, v, h => by
    cases d with
    | lst ds => obtain ⟨a, xs, e, h1, h2, h3⟩ := h; exact ⟨a, xs, e, s _ _ h1, h2, Paired.mapP h3 fun _ _ q => Den.mono s q⟩
    | tup ds => obtain ⟨a, xs, e, h1, h2, h3⟩ := h; exact ⟨a, xs, e, s _ _ h1, h2, Paired.mapP h3 fun _ _ q => Den.mono s q⟩
    | _ => exact h
theorem alloc {H : Hp} {o : HO} {Q : V → Hp → Prop} (h : ∀ p H', H p = none → Same H H' → H' p = some o → Q (.ref p) H') : ∀ p, H p = none → Q (.ref p) (upd H p o) := fun p hp =>
  h p _ hp (fun b ob e => by rw [upd_ne (ne_of_none e hp)]; exact e) upd_same
theorem same_upd {H : Hp} {p : Addr} {o : HO} (hp : H p = none) : Same H (upd H p o) := fun b ob e => by rw [upd_ne (ne_of_none e hp)]; exact e
theorem same_put {H0 H : Hp} {p : Addr} {o : HO} (s : Same H0 H) (hp : H0 p = none) : Same H0 (upd H p o) := fun b ob e => by rw [upd_ne (ne_of_none e hp)]; exact s _ _ e
theorem k1000 : 1000 ≤ sizeLine := by rw [sizeLine_eq]; decide
theorem ifT {c : Prop} [Decidable c] {A B : Prop} (hc : c) (h : A) : if decide c = true then A else B := by rw [if_pos (decide_eq_true hc)]; exact h
theorem ifF {c : Prop} [Decidable c] {A B : Prop} (hc : ¬ c) (h : B) : if decide c = true then A else B := by rw [if_neg (by rw [decide_eq_false hc]; exact Bool.false_ne_true)]; exact h
theorem ifNT {c : Prop} [Decidable c] {A B : Prop} (hc : ¬ c) (h : A) : if (!decide c) = true then A else B := by rw [if_pos (by rw [decide_eq_false hc]; rfl)]; exact h
theorem ifNF {c : Prop} [Decidable c] {A B : Prop} (hc : c) (h : B) : if (!decide c) = true then A else B := by rw [if_neg (by rw [decide_eq_true hc]; exact Bool.false_ne_true)]; exact h
theorem ifB {b : Bool} {A B : Prop} (hb : b = true) (h : A) : if b = true then A else B := by rw [if_pos hb]; exact h
theorem ifBF {b : Bool} {A B : Prop} (hb : b = false) (h : B) : if b = true then A else B := by rw [if_neg (by rw [hb]; exact Bool.false_ne_true)]; exact h
theorem rd_ixT {K : PySem.W.Frag} {H : Hp} {p : Addr} {xs : List V} {i : Int} {v : V} {Q : VK} (h : H p = some (.tup xs)) (e : atI xs i = some v) (q : Q v H) : rIxT K (.ref p) (.int i) H Q := ⟨p, xs, i, v, rfl, rfl, SqT.of h, e, q⟩
theorem rd_ixL {K : PySem.W.Frag} {H : Hp} {p : Addr} {xs : List V} {i : Int} {v : V} {Q : VK} (h : H p = some (.lst xs)) (e : atI xs i = some v) (q : Q v H) : rIxL K (.ref p) (.int i) H Q := ⟨p, xs, i, v, rfl, rfl, SqL.of h, e, q⟩
theorem rd_eq {x y : V} {H : Hp} {Q : VK} (e : scal x y = true) (q : Q (.bl (decide (x = y))) H) : rEq x y H Q := ⟨e, q⟩
theorem rd_ne {x y : V} {H : Hp} {Q : VK} (e : scal x y = true) (q : Q (.bl (!decide (x = y))) H) : rNe x y H Q := ⟨e, q⟩
theorem rd_inT {K : PySem.W.Frag} {x : V} {p : Addr} {xs : List V} {H : Hp} {Q : VK} {neg : Bool} (h : H p = some (.tup xs)) (f : flatV x = true) (g : xs.all flatV = true) (q : Q (.bl (if neg then !inV x xs else inV x xs)) H) : rIn K neg x (.ref p) H Q := ⟨p, xs, rfl, .inr (SqT.of h), f, g, q⟩
theorem rd_inL {K : PySem.W.Frag} {x : V} {p : Addr} {xs : List V} {H : Hp} {Q : VK} {neg : Bool} (h : H p = some (.lst xs)) (f : flatV x = true) (g : xs.all flatV = true) (q : Q (.bl (if neg then !inV x xs else inV x xs)) H) : rIn K neg x (.ref p) H Q := ⟨p, xs, rfl, .inl (SqL.of h), f, g, q⟩
def NewO (n : Nat) (o : HO) (H : Hp) (Q : VK) : Prop := n ≤ sizeLine ∧ ∀ p, H p = none → Q (.ref p) (upd H p o)
section
variable {σ : St} {H : Hp} {Q : VK} {QB : Bool → Hp → Prop} {QA : List V → Hp → Prop} {QO : Option Int → Hp → Prop} {D : Ends} {v x y : V} {i j : Int} {ta tb tc td te : TE} {tt tu : TT} {ts us : TS} {aa : TA} {K : PySem.W.Frag}
theorem fin_dec {c : Prop} [Decidable c] (h : c) (q : Q (.bl true) H) : Q (.bl (decide c)) H := by rw [decide_eq_true h]; exact q
theorem fin_tt {b : Bool} (h : b = true) (q : Q (.bl true) H) : Q (.bl b) H := by rw [h]; exact q
theorem i_C (h : Q v H) : tC v σ H Q := h
theorem i_var {n : Nat} (e : σ[n]? = some (some v)) (h : Q v H) : tVar n σ H Q := ⟨v, e, h⟩
theorem i_op {r : R2} (h : ta σ H fun x H1 => tb σ H1 fun y H2 => r x y H2 Q) : tOp r ta tb σ H Q := h
theorem i_un {r : V → Hp → VK → Prop} (h : ta σ H fun x H1 => r x H1 Q) : tUn r ta σ H Q := h
theorem i_rI0 {g : Int → Int → V} (h : Q (g i j) H) : rI0 g (.int i) (.int j) H Q := ⟨i, j, rfl, rfl, h⟩
theorem i_rI {C : Int → Int → Prop} {g : Int → Int → V} (c : C i j) (h : Q (g i j) H) : rI C g (.int i) (.int j) H Q := ⟨i, j, rfl, rfl, c, h⟩
theorem i_rU {g : Int → V} (h : Q (g i) H) : rU g (.int i) H Q := ⟨i, rfl, h⟩
theorem i_test (h : te σ H fun x H' => ∃ k, x = .bl k ∧ QB k H') : tTest te σ H QB := h
theorem i_tB (h : te σ H fun x H' => ∃ k, x = .bl k ∧ QB k H') : tB te σ H QB := h
theorem i_bl {b : Bool} {P : Bool → Prop} (h : P b) : ∃ k, V.bl b = V.bl k ∧ P k := ⟨b, rfl, h⟩
theorem i_seq (h : ts { D with nx := us D } σ H) : tSeq ts us D σ H := h
theorem i_ifS (h : tt σ H fun b H1 => if b = true then ts D σ H1 else us D σ H1) : tIfS tt ts us D σ H := h
theorem i_next (h : D.nx σ H) : tNext D σ H := h
theorem i_ret (h : te σ H D.rt) : tRet te D σ H := h
theorem i_drop (h : te σ H fun _ H1 => D.nx σ H1) : tDrop te D σ H := h
theorem i_asg {g : TG} (h : te σ H fun x H1 => g x σ H1 D.nx) : tAsg te g D σ H := h
theorem i_gname {n : Nat} {R : St → Hp → Prop} (h : R (σ.set n (some v)) H) : gName n v σ H R := h
theorem i_cons (h : te σ H fun x H1 => aa σ H1 fun xs H2 => QA (x :: xs) H2) : tCons te aa σ H QA := h
theorem i_nil (h : QA [] H) : tNil σ H QA := h
theorem i_call {sp : Sp} {E : XK} (h : aa σ H fun vs H1 => sp vs H1 Q E) : tCall sp [] E aa σ H Q := by
  have e : (fun (vs : List V) H1 => sp (vs ++ []) H1 Q E) = fun vs H1 => sp vs H1 Q E := by funext vs H1; rw [List.append_nil]
  unfold tCall
  rw [e]
  exact h
theorem i_CB {r : List V → Hp → VK → Prop} (h : aa σ H fun vs H1 => r vs H1 Q) : tCB r aa σ H Q := h
theorem i_chain {r r' : R2} (h : ta σ H fun x H1 => tb σ H1 fun y H2 => r x y H2 fun z H3 => ∃ k, z = .bl k ∧ (if k = true then tc σ H3 fun w' H4 => r' y w' H4 Q else Q (.bl false) H3)) : tChain r r' ta tb tc σ H Q := h
theorem i_chain3 {r r' r'' : R2} (h : ta σ H fun x H1 => tb σ H1 fun y H2 => r x y H2 fun z H3 => ∃ k, z = .bl k ∧
  (if k = true then tc σ H3 fun y' H4 => r' y y' H4 fun z' H5 => ∃ k', z' = .bl k' ∧ (if k' = true then td σ H5 fun w' H6 => r'' y' w' H6 Q else Q (.bl false) H5) else Q (.bl false) H3)) : tChain3 r r' r'' ta tb tc td σ H Q := h
theorem i_if (h : tt σ H fun c H1 => if c = true then ta σ H1 Q else tb σ H1 Q) : tIf tt ta tb σ H Q := h
theorem i_and (h : tt σ H fun c H1 => if c = true then tu σ H1 QB else QB false H1) : tAnd tt tu σ H QB := h
theorem i_or (h : tt σ H fun c H1 => if c = true then QB true H1 else tu σ H1 QB) : tOr tt tu σ H QB := h
theorem i_not (h : tt σ H fun c H1 => QB (!c) H1) : tNot tt σ H QB := h
theorem i_andV (h : ta σ H fun x H1 => ∃ c, x = .bl c ∧ if c = true then tb σ H1 Q else Q (.bl false) H1) : tAndV ta tb σ H Q := h
theorem i_orV (h : ta σ H fun x H1 => ∃ c, x = .bl c ∧ if c = true then Q (.bl true) H1 else tb σ H1 Q) : tOrV ta tb σ H Q := h
theorem i_notV (h : ta σ H fun x H1 => ∃ c, x = .bl c ∧ Q (.bl (!c)) H1) : tNotV ta σ H Q := h
theorem i_tup (h : aa σ H fun xs H1 => NewO xs.length (.tup xs) H1 Q) : tTup aa σ H Q := h
theorem i_lst (h : aa σ H fun xs H1 => NewO xs.length (.lst xs) H1 Q) : tLst aa σ H Q := h
theorem i_new {n : Nat} {o : HO} (c : n ≤ sizeLine) (h : ∀ p H', H p = none → Same H H' → H' p = some o → Q (.ref p) H') : NewO n o H Q := ⟨c, alloc h⟩
theorem i_sl {r : V → Option Int → Option Int → Hp → VK → Prop} {tl th : TO} (h : te σ H fun x H1 => tl σ H1 fun l H2 => th σ H2 fun u H3 => r x l u H3 Q) : tSl r te tl th σ H Q := h
theorem i_nopart (h : QO none H) : tNoPart σ H QO := h
theorem i_part (h : te σ H fun x H1 => ∃ i, x = .int i ∧ QO (some i) H1) : tPart te σ H QO := h
theorem i_int {P : Int → Prop} (h : P i) : ∃ k, V.int i = V.int k ∧ P k := ⟨i, rfl, h⟩
theorem i_abs {P : Int → Prop} (h : P i) : ∃ k, ([V.int i] : List V) = [V.int k] ∧ P k := ⟨i, rfl, h⟩
theorem i_slL {p : Addr} {xs : List V} {lo hi : Option Int} (h : H p = some (.lst xs)) (q : ∀ l H', H l = none → Same H H' → H' l = some (.lst (cutV xs lo hi)) → Q (.ref l) H') : rSlL K (.ref p) lo hi H Q := ⟨p, xs, rfl, SqL.of h, alloc q⟩
theorem i_bm {T : String} {r : V → List V → Hp → VK → Prop} (h : te σ H fun x H1 => tyV K T x H1 ∧ aa σ H1 fun xs H2 => r x xs H2 Q) : tBM K T r te aa σ H Q := h
theorem i_tyL {p : Addr} {xs : List V} {R : Prop} (h : H p = some (.lst xs)) (q : R) : tyV K "list" (.ref p) H ∧ R := ⟨.inl ⟨rfl, _, SqL.of h⟩, q⟩
theorem i_app2 {p : Addr} {xs : List V} {w : V} (e : H p = some (.lst xs)) (l : xs.length < sizeLine) (q : ∀ H', H' p = some (.lst (xs ++ [w])) → (∀ b o, b ≠ p → H b = some o → H' b = some o) → Q .non H') : rAppend (.ref p) [w] H Q :=
  ⟨p, xs, w, rfl, rfl, e, l, q _ upd_same fun b o hb h => by rw [upd_ne hb]; exact h⟩
theorem i_kget {kvs : List (Key × V)} (h : te σ H fun y H2 => ∃ k : Key, y = kV k ∧ Q ((valV kvs k).getD .non) H2) : tKGet kvs te σ H Q := h
theorem i_keyS {x : Str} {P : Key → Prop} (h : P (Sum.inr x)) : ∃ k : Key, V.str x = kV k ∧ P k := ⟨Sum.inr x, rfl, h⟩






def rLen (K : PySem.W.Frag) : List V → Hp → VK → Prop := fun xs H Q => ∃ p ys, xs = [.ref p] ∧ (SqL K H p ys ∨ SqT K H p ys) ∧ Q (.int ys.length) H
theorem cl_len {X : Cx} : CallR X (.builtin "len") (rLen X.K) := call_len_seq
theorem i_len {p : Addr} {ys : List V} (h : SqL K H p ys ∨ SqT K H p ys) (q : Q (.int ys.length) H) : rLen K [.ref p] H Q := ⟨p, ys, rfl, h, q⟩
def rRng : List V → Hp → VK → Prop := fun xs H Q => (∃ a b, xs = [.int a, .int b] ∧ ∀ p, H p = none → Q (.ref p) (upd H p (.rng a b))) ∨ ∃ b, xs = [.int b] ∧ ∀ p, H p = none → Q (.ref p) (upd H p (.rng 0 b))
theorem cl_rng {X : Cx} : CallR X (.type "range") rRng := call_rangeV
theorem i_rng2 {a b : Int} (q : ∀ p H', H p = none → Same H H' → H' p = some (.rng a b) → Q (.ref p) H') : rRng [.int a, .int b] H Q := .inl ⟨a, b, rfl, alloc q⟩
theorem i_rng1 {b : Int} (q : ∀ p H', H p = none → Same H H' → H' p = some (.rng 0 b) → Q (.ref p) H') : rRng [.int b] H Q := .inr ⟨b, rfl, alloc q⟩
def rListR : List V → Hp → VK → Prop := fun xs H Q => ∃ p lo hi, xs = [.ref p] ∧ H p = some (.rng lo hi) ∧ -(2 ^ 62) ≤ lo ∧ lo < 2 ^ 62 ∧ -(2 ^ 62) ≤ hi ∧ hi < 2 ^ 62 ∧ (hi - lo).toNat ≤ 2 ^ 24 ∧ ∀ l, H l = none → Q (.ref l) (upd H l (.lst (rangeV lo (hi - lo).toNat)))
theorem cl_listR {X : Cx} (hc : X.calm = true) : CallR X (.type "list") rListR := call_listR hc
theorem i_listR {p : Addr} {lo hi : Int} (h : H p = some (.rng lo hi)) (c : -(2 ^ 62) ≤ lo ∧ lo < 2 ^ 62 ∧ -(2 ^ 62) ≤ hi ∧ hi < 2 ^ 62 ∧ (hi - lo).toNat ≤ 2 ^ 24) (q : ∀ l H', H l = none → Same H H' → H' l = some (.lst (rangeV lo (hi - lo).toNat)) → Q (.ref l) H') : rListR [.ref p] H Q :=
  ⟨p, lo, hi, rfl, h, c.1, c.2.1, c.2.2.1, c.2.2.2.1, c.2.2.2.2, alloc q⟩
def rListL (K : PySem.W.Frag) : List V → Hp → VK → Prop := fun xs H Q => ∃ p ys, xs = [.ref p] ∧ (SqL K H p ys ∨ SqT K H p ys) ∧ ∀ l, H l = none → Q (.ref l) (upd H l (.lst ys))
theorem cl_listL {X : Cx} : CallR X (.type "list") (rListL X.K) := call_list_of
theorem i_listL {p : Addr} {ys : List V} (h : SqL K H p ys ∨ SqT K H p ys) (q : ∀ l H', H l = none → Same H H' → H' l = some (.lst ys) → Q (.ref l) H') : rListL K [.ref p] H Q := ⟨p, ys, rfl, h, alloc q⟩
def rSort (K : PySem.W.Frag) : List V → Hp → VK → Prop := fun xs H Q => ∃ (p : Addr) (ns : List Int), xs = [.ref p] ∧ SqL K H p (ns.map V.int) ∧ ns.length < 64 ∧ ∀ (ns' : List Int) l, ns'.Perm ns → ns'.Pairwise (· ≤ ·) → H l = none → Q (.ref l) (upd H l (.lst (ns'.map V.int)))
theorem cl_sort {X : Cx} : CallR X (.builtin "sorted") (rSort X.K) := call_sortedI
theorem i_sort {p : Addr} (ns : List Int) (h : H p = some (.lst (ns.map V.int))) (c : ns.length < 64) (q : ∀ (ns' : List Int) l H', ns'.Perm ns → ns'.Pairwise (· ≤ ·) → H l = none → Same H H' → H' l = some (.lst (ns'.map V.int)) → Q (.ref l) H') : rSort K [.ref p] H Q :=
  ⟨p, ns, rfl, SqL.of h, c, fun ns' l h1 h2 h3 => q ns' l _ h1 h2 h3 (same_upd h3) upd_same⟩
def rAll (K : PySem.W.Frag) : List V → Hp → VK → Prop := fun xs H Q => ∃ (p : Addr) (bs : List Bool), xs = [.ref p] ∧ SqL K H p (bs.map V.bl) ∧ Q (.bl (bs.all id)) H
theorem cl_all {X : Cx} (hc : X.calm = true) : CallR X (.builtin "all") (rAll X.K) := call_allL hc
def rSumT (K : PySem.W.Frag) : List V → Hp → VK → Prop := fun xs H Q => ∃ p q, xs = [.ref p, .ref q] ∧ SqT K H q [] ∧ ((SqL K H p [] ∧ Q (.ref q) H) ∨ ∃ t zs, SqL K H p [.ref t] ∧ SqT K H t zs ∧ Q (.ref t) H)
theorem cl_sumT {X : Cx} (hc : X.calm = true) : CallR X (.builtin "sum") (rSumT X.K) := call_sumT hc
theorem i_sum0 {p q : Addr} (h1 : H p = some (.lst [])) (h2 : H q = some (.tup [])) (k : Q (.ref q) H) : rSumT K [.ref p, .ref q] H Q := ⟨p, q, rfl, SqT.of h2, .inl ⟨SqL.of h1, k⟩⟩
theorem i_sum1 {p q t : Addr} {zs : List V} (h1 : H p = some (.lst [.ref t])) (h2 : H q = some (.tup [])) (h3 : H t = some (.tup zs)) (k : Q (.ref t) H) : rSumT K [.ref p, .ref q] H Q := ⟨p, q, rfl, SqT.of h2, .inr ⟨t, zs, SqL.of h1, SqT.of h3, k⟩⟩
theorem i_truT {p : Addr} {xs : List V} {P : Bool → Prop} (h : H p = some (.tup xs)) (q : P (!xs.isEmpty)) : ∃ k, TruV K (.ref p) H k ∧ P k := ⟨_, .inr (.inl ⟨xs, SqT.of h, rfl⟩), q⟩
theorem i_truL {p : Addr} {xs : List V} {P : Bool → Prop} (h : H p = some (.lst xs)) (q : P (!xs.isEmpty)) : ∃ k, TruV K (.ref p) H k ∧ P k := ⟨_, .inl ⟨xs, SqL.of h, rfl⟩, q⟩
theorem i_cat {l b : Addr} {xs zs : List V} (h1 : H l = some (.lst xs)) (h2 : H b = some (.lst zs)) (h3 : xs.length + zs.length ≤ sizeLine) (q : ∀ p H', H p = none → Same H H' → H' p = some (.lst (xs ++ zs)) → Q (.ref p) H') : rCat (.ref l) (.ref b) H Q := ⟨l, b, xs, zs, rfl, rfl, h1, h2, h3, alloc q⟩
theorem i_isN (q : Q (.bl (decide (x = .non))) H) : (fun x y H Q => y = V.non ∧ Q (.bl (decide (x = .non))) H : R2) x .non H Q := ⟨rfl, q⟩
end
def ForJ (J : It) (g : TG) (tb : TS) (D : Ends) (σ : St) (H : Hp) : Prop := ∃ W : Nat → Nat → St → Hp → Prop, (∃ m, W 0 m σ H) ∧ ∀ i m σ H, W i m σ H →
  (J.stop i H ∧ D.nx σ H) ∨ (J.go i H ∧ ∃ N : St → Hp → Prop, (∀ σ' H', N σ' H' → ∃ m', m' < m ∧ W (i + 1) m' σ' H') ∧ ∀ x H', J.yld i H x H' → g x σ H' fun σ2 H2 => tb { D with nx := N, ct := N, bk := D.nx } σ2 H2)
section
variable {σ : St} {H : Hp} {Q : VK} {D : Ends} {g : TG} {tb : TS} {te : TE} {aa : TA} {K : PySem.W.Frag}
theorem i_forL (h : te σ H fun x H1 => ∃ a, x = .ref a ∧ (∃ xs, SqL K H1 a xs) ∧ ForJ (Itl K a) g tb D σ H1) : tFor (iList K te) g tb D σ H := h
theorem i_for1 (h : aa σ H fun vs H1 => ∃ j : Int, vs = [.int j] ∧ -(2 ^ 62) ≤ j ∧ j < 2 ^ 62 ∧ ForJ (Itr 0 j.toNat) g tb D σ H1) : tFor (iRng1 aa) g tb D σ H := h
theorem i_slS {p : Addr} {xs : List V} {lo hi : Option Int} (h : SqL K H p xs) (q : ∀ l H', H l = none → Same H H' → H' l = some (.lst (cutV xs lo hi)) → Q (.ref l) H') : rSlL K (.ref p) lo hi H Q := ⟨p, xs, rfl, h, alloc q⟩
theorem for_l {a : Addr} {xs : List V} (Pv : Nat → St → Hp → Prop) (h0 : Pv 0 σ H) (hl : ∀ i σ H, i ≤ xs.length → Pv i σ H → SqL K H a xs)
    (hs : ∀ i x σ H, xs[i]? = some x → Pv i σ H → g x σ H fun σ2 H2 => tb { D with nx := Pv (i + 1), ct := Pv (i + 1), bk := D.nx } σ2 H2) (hd : ∀ σ H, Pv xs.length σ H → D.nx σ H) : ForJ (Itl K a) g tb D σ H := for_list Pv h0 hl hs hd
theorem for_r {lo : Int} {n : Nat} (Pv : Nat → St → Hp → Prop) (h0 : Pv 0 σ H)
    (hs : ∀ i σ H, i < n → Pv i σ H → g (.int (lo + i)) σ H fun σ2 H2 => tb { D with nx := Pv (i + 1), ct := Pv (i + 1), bk := D.nx } σ2 H2) (hd : ∀ σ H, Pv n σ H → D.nx σ H) : ForJ (Itr lo n) g tb D σ H := for_range Pv h0 hs hd
end
theorem cmulL {i j : Int} (h1 : -(2 ^ 64) < i) (h2 : i < 2 ^ 64) : CMul i j := .inl ⟨h1, h2⟩
theorem cmulR {i j : Int} (h1 : -(2 ^ 64) < j) (h2 : j < 2 ^ 64) : CMul i j := .inr ⟨h1, h2⟩
end L2

namespace L2
open PySem PySem.Spec PyProof.Rows
def CompJ (J : It) (k : Nat) (caps : List Nat) (g : TG) (tc : TT) (te : TE) (σ : St) (Q : VK) (H1 : Hp) : Prop := ∀ D, H1 D = none →
  ∃ W : Nat → Nat → List V → St → Hp → Prop, (∃ m, W 0 m [] (List.replicate k none ++ capσ σ caps) (upd H1 D (.lst []))) ∧
    ∀ i m ys σ' H', W i m ys σ' H' → H' D = some (.lst ys) →
      (J.stop i H' ∧ Q (.ref D) H') ∨ (J.go i H' ∧ ∀ x H2, J.yld i H' x H2 → g x σ' H2 fun σ3 H3 => tc σ3 H3 fun b H4 =>
        if b = true then te σ3 H4 fun y H5 => H5 D = some (.lst ys) ∧ ys.length < sizeLine ∧ ∃ m', m' < m ∧ W (i + 1) m' (ys ++ [y]) σ3 (upd H5 D (.lst (ys ++ [y])))
        else H4 D = some (.lst ys) ∧ ∃ m', m' < m ∧ W (i + 1) m' ys σ3 H4)
section
variable {σ : St} {H : Hp} {Q : VK} {g : TG} {tc : TT} {te tl : TE} {aa : TA} {K : PySem.W.Frag} {k : Nat} {caps : List Nat}
def Yield (D : Addr) (n i : Nat) (ys : List V) (Pv : Nat → List V → St → Hp → Prop) (σ3 : St) : VK := fun y H5 => H5 D = some (.lst ys) ∧ ys.length < sizeLine ∧ ∃ m', m' < n - i ∧ (m' = n - (i + 1) ∧ i + 1 ≤ n ∧ Pv (i + 1) (ys ++ [y]) σ3 (upd H5 D (.lst (ys ++ [y]))))
theorem yield_ok {D : Addr} {n i : Nat} {ys : List V} {Pv : Nat → List V → St → Hp → Prop} {σ3 : St} {y : V} {H5 : Hp} (h : H5 D = some (.lst ys)) (l : ys.length < sizeLine) (hi : i < n) (q : Pv (i + 1) (ys ++ [y]) σ3 (upd H5 D (.lst (ys ++ [y])))) : Yield D n i ys Pv σ3 y H5 :=
  ⟨h, l, n - (i + 1), by omega, rfl, hi, q⟩
theorem comp_r {lo : Int} {n : Nat} (h : ∀ D, H D = none → ∃ Pv : Nat → List V → St → Hp → Prop, Pv 0 [] (List.replicate k none ++ capσ σ caps) (upd H D (.lst [])) ∧
      (∀ i ys σ' H', i < n → Pv i ys σ' H' → H' D = some (.lst ys) → g (.int (lo + i)) σ' H' fun σ3 H3 => tc σ3 H3 fun b H4 => if b = true then te σ3 H4 (Yield D n i ys Pv σ3) else H4 D = some (.lst ys) ∧ ∃ m', m' < n - i ∧ (m' = n - (i + 1) ∧ i + 1 ≤ n ∧ Pv (i + 1) ys σ3 H4)) ∧
      ∀ ys σ' H', Pv n ys σ' H' → H' D = some (.lst ys) → Q (.ref D) H') : CompJ (Itr lo n) k caps g tc te σ Q H := by
  intro D hD
  obtain ⟨Pv, h0, hs, hd⟩ := h D hD
  refine ⟨fun i m ys σ' H' => m = n - i ∧ i ≤ n ∧ Pv i ys σ' H', ⟨n, by simp, Nat.zero_le _, h0⟩, ?_⟩
  rintro i m ys σ' H' ⟨rfl, hi, p⟩ hl
  by_cases hlt : i < n
  · refine .inr ⟨hlt, fun x H2 y => ?_⟩
    obtain ⟨e, y⟩ := y
    subst e y
    exact hs i ys σ' _ hlt p hl
  · have e : i = n := by omega
    subst e
    exact .inl ⟨Nat.le_refl _, hd ys σ' H' p hl⟩
theorem i_comp1 (h : aa σ H fun vs H1 => ∃ j : Int, vs = [.int j] ∧ -(2 ^ 62) ≤ j ∧ j < 2 ^ 62 ∧ CompJ (Itr 0 j.toNat) k caps g tc te σ Q H1) : tComp (iRng1 aa) k caps g tc te σ H Q := h
theorem i_comp2 (h : aa σ H fun vs H1 => ∃ i j : Int, vs = [.int i, .int j] ∧ (-(2 ^ 62) ≤ i ∧ i < 2 ^ 62 ∧ -(2 ^ 62) ≤ j ∧ j < 2 ^ 62) ∧ CompJ (Itr i (j - i).toNat) k caps g tc te σ Q H1) : tComp (iRng2 aa) k caps g tc te σ H Q := h
theorem i_yes {QB : Bool → Hp → Prop} (h : QB true H) : tYes σ H QB := h
theorem i_isi1 {x : V} {t : Value} {n : String} {b : Bool} (ty : TyOf K H x t) (e : PySem.W.kitOne K t (.type n) = some b) (q : Q (.bl b) H) : rIsI K [x, .ty n] H Q := ⟨x, .ty n, t, rfl, ty, .inl ⟨n, b, rfl, e, q⟩⟩
theorem i_isi2 {x : V} {t : Value} {p : Addr} (ns : List String) {b : Bool} (ty : TyOf K H x t) (h : H p = some (.tup (ns.map V.ty))) (e : PySem.W.kitAny K t (ns.map Value.type) = some b) (q : Q (.bl b) H) : rIsI K [x, .ref p] H Q := ⟨x, .ref p, t, rfl, ty, .inr ⟨p, ns, b, rfl, h, e, q⟩⟩
theorem i_all {p : Addr} (bs : List Bool) (h : H p = some (.lst (bs.map V.bl))) (q : Q (.bl (bs.all id)) H) : rAll K [.ref p] H Q := ⟨p, bs, rfl, SqL.of h, q⟩
theorem i_ixSeqL {p : Addr} {xs : List V} {i : Int} {v : V} (h : H p = some (.lst xs)) (e : atI xs i = some v) (q : Q v H) : rIx K (.ref p) (.int i) H Q := .inl ⟨p, xs, i, v, rfl, rfl, SqL.of h, e, q⟩
theorem i_ixSeqT {p : Addr} {xs : List V} {i : Int} {v : V} (h : H p = some (.tup xs)) (e : atI xs i = some v) (q : Q v H) : rIx K (.ref p) (.int i) H Q := .inr (.inl ⟨p, xs, i, v, rfl, rfl, SqT.of h, e, q⟩)
theorem paired_at {α β : Type} {F : α → β → Prop} : ∀ {l₁ : List α} {l₂ : List β} {i : Nat}, Paired F l₁ l₂ → i < l₁.length → ∃ a b, l₁[i]? = some a ∧ l₂[i]? = some b ∧ F a b
  | _, _, i, .nil, h => by simp at h
  | _, _, 0, .cons r _, _ => ⟨_, _, rfl, rfl, r⟩
  | _, _, i + 1, .cons _ t, h => by
    obtain ⟨a, b, h1, h2, h3⟩ := paired_at (i := i) t (by simpa using h)
    exact ⟨a, b, by simpa using h1, by simpa using h2, h3⟩
end
theorem i_eqr {x : V} {R : Prop} (q : R) : x = x ∧ R := ⟨rfl, q⟩
theorem kIx {X : Cx} {K : PySem.W.Frag} {r : PySem.W.Frag → R2} (f : IxR X (r X.K)) (h : X.K = K) : IxR X (r K) := h ▸ f
theorem kOp {X : Cx} {K : PySem.W.Frag} {r : PySem.W.Frag → R2} {op : Value → Value → Sem Value} (f : OpR X op (r X.K)) (h : X.K = K) : OpR X op (r K) := h ▸ f
theorem kCall {X : Cx} {K : PySem.W.Frag} {fv : Value} {r : PySem.W.Frag → List V → Hp → VK → Prop} (f : CallR X fv (r X.K)) (h : X.K = K) : CallR X fv (r K) := h ▸ f
theorem kSl {X : Cx} {K : PySem.W.Frag} {r : PySem.W.Frag → V → Option Int → Option Int → Hp → VK → Prop} (f : SlR X (r X.K)) (h : X.K = K) : SlR X (r K) := h ▸ f
def compChk (NX : List Str) (nx : List (Str × NameKind)) (N : List Str) (k : Nat) (caps : List Nat) (sc : Scope) : Bool :=
  sc.kind == .function && decide (N.length = k + caps.length) && decide ((N.drop k).map some = caps.map (NX[·]?)) &&
  (N.drop k).all (fun x => sc.names.lookup x == some .free && (nx.lookup x == some .cell || nx.lookup x == some .free)) &&
  sc.names.all (fun y => y.2 != .cell && (y.2 != .local || sc.names.lookup y.1 == some .local) && (y.2 != .free || (nx.lookup y.1 == some .cell || nx.lookup y.1 == some .free)))
theorem compOk_of (NX : List Str) (nx : List (Str × NameKind)) {N : List Str} {k : Nat} {caps : List Nat} {sc : Scope} (h : compChk NX nx N k caps sc = true) : CompOk NX nx N k caps sc := by
  unfold compChk at h
  simp only [Bool.and_eq_true, List.all_eq_true, Bool.or_eq_true, decide_eq_true_eq, beq_iff_eq, bne_iff_ne, ne_eq] at h
  obtain ⟨⟨⟨⟨h1, h2⟩, h3⟩, h4⟩, h5⟩ := h
  exact ⟨h1, h2, h3, fun x hx => h4 x hx, fun y hy => (h5 y hy).1.1, fun y hy e => (h5 y hy).1.2.resolve_left (fun z => z e), fun y hy e => (h5 y hy).2.resolve_left (fun z => z e)⟩
end L2

namespace L2
open PySem PySem.Spec PyProof.Rows
section
variable {X : Cx}
def Its (lo st : Int) (n : Nat) : It := ⟨fun i _ => i < n, fun i H x H' => H' = H ∧ x = .int (lo + i * st), fun i _ => n ≤ i⟩
theorem turn_step {P : Program} {w : World} {K : PySem.W.Frag} {tg : Expr} (it : Addr) (lo st : Int) (n : Nat) : Turn P w K tg (Its lo st n) [it] it (fun i h => IsRangeIter h it (lo + (i : Nat) * st) ((n : Int) - (i : Nat)) st) where
  mem := by simp
  obj := fun i h st b hb => by
    have e : b = it := by simpa using hb
    subst e
    exact ⟨_, st, fun v z => by
      have z' : Data.fields _ = Data.cell v := z
      cases z'⟩
  keep := fun i h h' st k => k it (by simp) _ st
  item := by
    intro X hP hw hK hc i pins s σ H E I hf st' hg
    subst hP hw hK
    obtain ⟨f0, f1, f2, f3, f4, f5⟩ := hf it (by simp)
    have W := Walks.range (prog := X.prog) (w := X.w) (I.ok.hd hc) it lo st n
    refine W.item i s _ _ hg st' fun v h' tk hv st'' kk => ?_
    obtain ⟨t, rfl⟩ := hv
    have I1 : Inv X pins σ H { s with heap := h', toks := tk } := I.turned (fun b o hb e => kk b o (by simpa using hb) e) f0 f1 f3 f4 f5
    exact ⟨_, rfl, go_of (s := { s with heap := h', toks := tk }) (n := "range_iterator") st'' rfl rfl (by decide) ⟨.int (lo + i * st), H, I1, ⟨t, rfl⟩, ⟨rfl, rfl⟩, st'', fun b hb => (hf b hb).1⟩⟩
  done := by
    intro X hP hw hK hc i pins s σ H E I hf st' hg
    subst hP hw hK
    obtain ⟨f0, f1, f2, f3, f4, f5⟩ := hf it (by simp)
    exact wpAny_pyNext_range_end (I.ok.hd hc) st' (by have : n ≤ i := hg; omega) fun h' eb => ⟨rfl, I.turned (t' := s.toks) (fun b o hb e => eb b o hb e) f0 f1 f3 f4 f5⟩
  self := fun _ _ _ _ _ st h => wpAny_pyIter_rangeiter st h
end
section
variable {X : Cx} {tg : Expr}
def iRng3 (ta : TA) : TI := fun σ H R => ta σ H fun vs H1 => ∃ i j k : Int, vs = [.int i, .int j, .int k] ∧ k ≠ 0 ∧ (j - i).natAbs < 1000000 ∧ k.natAbs < 1000 ∧ Builtin.Range.small i j k = true ∧ R (Its i k (Builtin.Range.rangeSize i j k).toNat) H1
theorem pi_range3 {a b c : Expr} {ta : TA} {p pos : Pos} (hg : Gl X "range") (hm : X.mg "range" = none) (ha : PA X [a, b, c] ta)
    (hs : starEach [a, b, c] X.env = [(false, eval a X.env), (false, eval b X.env), (false, eval c X.env)] := by rfl) (hs2 : starEach [b, c] X.env = [(false, eval b X.env), (false, eval c X.env)] := by rfl) :
    PI X tg (.Call (.Name "range" p) [a, b, c] [] pos) (iRng3 ta) := by
  intro pins s σ H R I h
  refine Call_ (ld_blt I hg hm bt_range (PyProof.Rows.callWith_type1 (thn (ha pos pins s σ H _ I h) fun us s1 ⟨vs, H1, I1, r1, q1⟩ => ?_) (by rw [hs, hs2]) (by rw [hs2]; rfl)))
  obtain ⟨i, j, k, e, hk, hd, hk2, hsm, q⟩ := q1
  subst e
  cases r1 with
  | cons r rr =>
    cases rr with
    | cons r' rr =>
      cases rr with
      | cons r'' rr =>
        cases rr
        obtain ⟨t, rfl⟩ := r
        obtain ⟨t', rfl⟩ := r'
        obtain ⟨t'', rfl⟩ := r''
        refine call_range_3 hk ?_ (Or.inl (PyProof.noPylong_small (by omega)))
        refine wpAny_pyIter_range (IsRange.new ..) hsm ?_
        have I2 : Inv X pins σ H1 { s1 with heap := s1.heap.push { cls := .type "range", data := .fields #[.int i t, .int j t', .int k t''] }, toks := s1.toks } := I1.kept fun b o e => Heap.get?_push_of_some _ e
        refine ⟨(s1.heap.push { cls := .type "range", data := .fields #[.int i t, .int j t', .int k t''] }).objs.size, [(s1.heap.push { cls := .type "range", data := .fields #[.int i t, .int j t', .int k t''] }).objs.size], _, _, H1, rfl,
          I2.kept (t' := s1.toks) fun b o e => Heap.get?_push_of_some _ e, turn_step _ i k (Builtin.Range.rangeSize i j k).toNat, ?_, fun b hb => ?_, q⟩
        · have nn : 0 ≤ Builtin.Range.rangeSize i j k := by
            unfold Builtin.Range.rangeSize
            split
            · split
              · have : 0 ≤ (j - i - 1) / k := Int.ediv_nonneg (by omega) (by omega)
                omega
              · exact Int.le_refl 0
            · split
              · have : 0 ≤ (i - j - 1) / (-k) := Int.ediv_nonneg (by omega) (by omega)
                omega
              · exact Int.le_refl 0
          have e1 : i + ((0 : Nat) : Int) * k = i := by simp
          have e2 : (((Builtin.Range.rangeSize i j k).toNat : Nat) : Int) - ((0 : Nat) : Int) = Builtin.Range.rangeSize i j k := by omega
          show IsRangeIter _ _ (i + ((0 : Nat) : Int) * k) ((((Builtin.Range.rangeSize i j k).toNat : Nat) : Int) - ((0 : Nat) : Int)) k
          rw [e1, e2]
          exact Heap.get?_push_size _ rfl
        · have e : b = (s1.heap.push { cls := .type "range", data := .fields #[.int i t, .int j t', .int k t''] }).objs.size := by simpa using hb
          subst e
          exact I2.fpOk (Nat.le_refl _) (I2.hok.fresh (Nat.le_refl _))
end
section
variable {X : Cx}
def rRev (K : PySem.W.Frag) : V → Hp → VK → Prop := fun x H Q => ∃ a xs, x = .ref a ∧ SqL K H a xs ∧ ∀ p, H p = none → Q (.ref p) (upd H p (.lst xs.reverse))
def tRev (K : PySem.W.Frag) (te : TE) : TE := fun σ H Q => te σ H fun x H1 => rRev K x H1 Q
theorem pe_rev {e : Expr} {te : TE} {p2 pos p3 p4 : Pos} {z : Nat} (he : PE X e te) : PE X (.Subscript e (.Slice none none (some (.UnaryOp .USub (.Constant (.int 1) z p3) p4)) p2) pos) (tRev X.K te) := by
  intro pins s σ H Q I h
  refine Subscript_ (thn (he pins s σ H _ I h) fun v s1 ⟨x, H1, I1, r1, a, xs, ex, hx, q⟩ => ?_)
  subst ex
  cases r1
  have hm : PE X (.UnaryOp .USub (.Constant (.int 1) z p3) p4) (tUn (rU fun i => .int (-i)) (tC (.int 1))) := pe_un un_neg pe_int
  refine wpAny_Slice ?_
  rw [evalPart_none]
  refine wpAny_pure (wpAny_pure ?_)
  rw [evalPart_some]
  refine thn (hm pins s1 σ H1 (fun y H2 => y = .int (-1) ∧ H2 = H1) I1 ⟨1, rfl, rfl, rfl⟩) fun st s2 ⟨y, H2, I2, ry, ey, eH⟩ => ?_
  subst ey eH
  obtain ⟨t, rfl⟩ := ry
  have I4 : Inv X pins σ H2 { s2 with heap := s2.heap.push { cls := .type "slice", data := .fields #[.none, .none, .int (-1) t] } } := I2.kept (t' := s2.toks) fun b ob q => Heap.get?_push_of_some _ q
  obtain ⟨its, r, pl, hz⟩ := I4.list hx
  have hlen := r.length
  refine tail_any (ops := [.ref a, .ref s2.heap.objs.size]) pl.isList.typeIs slot_list_getitem.lookup ?_ (by with_unfolding_all rfl)
  refine wpAny_getItem_list_slice pl.isList (Heap.IsSliceOf.new ..) .none .none (.int (-1) t) (by decide) ?_ (by rw [List.size_toArray]; omega)
  rw [PySem.W.krv_pick]
  refine ⟨.ref _, _, I4.laid (t' := s2.toks) (o := .lst xs.reverse) (fun b ob q => Heap.get?_push_of_some _ q) (Nat.le_refl _) ⟨by rw [List.length_reverse]; exact hz, its.reverse, 0, r.reverse, ?_⟩, rfl, q _ (I4.hok.fresh (Nat.le_refl _))⟩
  rw [List.toList_toArray]
  exact Heap.get?_push_size _ rfl
theorem i_rev {te : TE} {σ : St} {H : Hp} {Q : VK} {K : PySem.W.Frag} (h : te σ H fun x H1 => rRev K x H1 Q) : tRev K te σ H Q := h
theorem i_rRev {H : Hp} {Q : VK} {K : PySem.W.Frag} {a : Addr} {xs : List V} (h : H a = some (.lst xs)) (q : ∀ p H', H p = none → Same H H' → H' p = some (.lst xs.reverse) → Q (.ref p) H') : rRev K (.ref a) H Q := ⟨a, xs, rfl, SqL.of h, alloc q⟩
end
theorem ps_setComp {X : Cx} {y : Str} {iy : Nat} {py spos : Pos} {elt iter tg : Expr} {ifs : List Expr} {scope : Scope} {pos : Pos} {N : List Str} {k : Nat} {caps : List Nat} {wi : TI} {g : TG} {tc : TT} {te : TE}
    (hc : X.calm = true) (S : CompOk X.N X.env.scope.names N k caps scope) (hi : PI X tg iter wi)
    (hg : ∀ C fp s H, PG (cxComp X N scope C fp s H) tg g) (ht : ∀ C fp s H, PCs (cxComp X N scope C fp s H) ifs tc) (he : ∀ C fp s H, PE (cxComp X N scope C fp s H) elt te)
    (hN : X.N.Nodup) (hiy : X.N[iy]? = some y) (hy : Loc X.env.scope y) (hsw : swapsWith (.ListComp elt [⟨tg, iter, ifs, 0⟩] scope pos) (some (.Name y py)) spos.line X.env = pure true := by rfl)
    (hs : ∀ x, foldedSetIterable iter X.env x = pure x := by intro _; rfl) (hf : X.fn y = true ∨ X.env.scope.names.lookup y = some .local := by first | exact .inl rfl | exact .inr rfl) :
    PS X (.Assign [.Name y py] (.ListComp elt [⟨tg, iter, ifs, 0⟩] scope pos) spos) (fun D0 σ H => tComp wi k caps g tc te σ H fun x H1 => D0.nx (σ.set iy (some x)) H1) := by
  intro pins s σ H D0 I h
  have hcells : ∀ y ∈ scope.names, y.2 = .free → ∃ c, X.env.cells.lookup y.1 = some c := fun y hy hf => I.ok.has y.1 (S.free y hy hf)
  rw [exec_Assign_Name_used _ _ _ _ hsw]
  refine wpAny_bind (wpAny_standAt (wpAny_bind ?_))
  show wpAny _ X.A (do let _ ← comprehension (.ListComp elt [⟨tg, iter, ifs, 0⟩] scope pos) scope X.env _ (newList []) false (eval iter X.env) (some (assign (.Name y py) X.env))) _ _ s
  refine wpAny_bind (wpAny_mono (wpAny_comprehension_free (use := some (assign (.Name y py) X.env)) (Q := fun _ s' => SP X pins D0 .next s') rfl hs (closure_ok hcells) S.kind S.loc (thn (hi pins s σ H _ I h) fun v s1 h1 => thn h1 fun itv s2 h2 => ?_)) (fun _ s' hq => wpAny_pure (wpAny_pure hq)) fun _ _ e => e)
  obtain ⟨it, fp, tn, J, H2, rfl, I2, T, st2, f2, rd⟩ := h2
  have hD : H2 s2.heap.objs.size = none := I2.fresh
  obtain ⟨W, ⟨m0, w0⟩, turn⟩ := rd s2.heap.objs.size hD
  refine wpAny_newList ?_
  have I3 : Inv X pins σ (upd H2 s2.heap.objs.size (.lst [])) { s2 with heap := s2.heap.push { cls := .type "list", data := .seq ([] : List Value).toArray }, toks := s2.toks } := I2.lnew .nil (Nat.zero_le _)
  refine wpAny_newFunctionEnv S.cell (by intro y hy; simp at hy) (fun h₁ hns₁ hsb₁ => ?_) S.kind
  dsimp only at hns₁ hsb₁ ⊢
  generalize hDa : s2.heap.objs.size = D at *
  generalize hs3 : ({ s2 with heap := s2.heap.push { cls := .type "list", data := .seq ([] : List Value).toArray }, toks := s2.toks } : Shared) = s3 at I3
  have e3 : s3.heap = s2.heap.push { cls := .type "list", data := .seq ([] : List Value).toArray } := by rw [← hs3]
  rw [← e3] at hns₁ hsb₁ ⊢
  generalize hC : s3.heap.objs.size = C at *
  have old : ∀ b o, s3.heap.get? b = some o → h₁.get? b = some o := fun b o e => by
    have hb : b ≠ C := by rw [← hC]; exact Nat.ne_of_lt (Heap.lt_size e)
    exact hsb₁.extBut b o hb (Heap.get?_push_of_some _ e)
  have old2 : ∀ b o, s2.heap.get? b = some o → s3.heap.get? b = some o := fun b o e => by rw [e3]; exact Heap.get?_push_of_some _ e
  have f3 : ∀ b ∈ fp, FpOk X pins (upd H2 D (.lst [])) b := fun b hb => by
    obtain ⟨g0, g1⟩ := f2 b hb
    obtain ⟨o, ho, _⟩ := T.obj _ _ st2 b hb
    have : b ≠ D := by rw [← hDa]; exact Nat.ne_of_lt (Heap.lt_size ho)
    exact ⟨by rw [upd_ne this]; exact g0, g1⟩
  have fpC : ∀ b ∈ fp, b < C := fun b hb => by
    obtain ⟨o, ho, _⟩ := T.obj _ _ st2 b hb
    rw [← hC]
    exact Heap.lt_size (old2 b o ho)
  let Y : Cx := cxComp X N scope C fp s3 (upd H2 D (.lst []))
  have sub : ∀ {x : Str} {c : Addr}, Y.env.cells.lookup x = some c → X.env.cells.lookup x = some c := fun {x c} e => cloOf_sub hcells (fun _ _ z => by simp at z) e
  have YOk : Y.Ok := by
    refine ⟨I.ok.mod, S.kind, I.ok.glob, I.ok.blt, Nat.le_of_eq hC, fun x y c e1 e2 => I.ok.inj x y c (sub e1) (sub e2), fun x hx => ?_, fun x c z _ => by simp [Y, cxComp] at z, I.ok.hd, I.ok.frames, .inl rfl, fun b hb => ⟨Nat.ne_of_lt (fpC b hb), fun x c e => (f3 b hb).2.2.2.2.1 x c (sub e)⟩,
      fun b o e => I3.bs b o e, Nat.le_trans I.ok.bsz I3.sz, fun b o e hb => ?_, fun b hb z => ?_, I3.stack, I3.stkFree⟩
    · have : ∃ k0, scope.names.lookup x = some k0 ∧ (k0 = .free ∨ k0 = .cell) := by
        rcases hx with hx | hx
        · obtain ⟨k0, e0, z⟩ := relabel_kind hx
          rcases z with z | z
          · exact ⟨k0, e0, .inr z.symm⟩
          · exact ⟨k0, e0, .inl z.1⟩
        · obtain ⟨k0, e0, z⟩ := relabel_kind hx
          rcases z with z | z
          · exact ⟨k0, e0, .inl z.symm⟩
          · cases z.2
      obtain ⟨k0, e0, z⟩ := this
      rcases z with z | z
      · subst z; exact cloOf_has e0
      · subst z; exact absurd rfl (S.cell _ (PySem.mem_of_lookup e0))
    · rcases (f3 b hb).2.2.2.1 with z | z
      · exact I.ok.noex b o e z
      · exact absurd (Nat.lt_of_lt_of_le (Nat.lt_of_lt_of_le (Heap.lt_size e) I.ok.bsz) z) (Nat.lt_irrefl _)
    · rcases List.mem_cons.mp (I3.stkSub b z) with q | q
      · exact (f3 b hb).2.1 q
      · exact (f3 b hb).2.2.1 q
  have IY : ∀ tk : Nat, Inv Y [] (List.replicate k none ++ capσ σ caps) (upd H2 D (.lst [])) { s3 with heap := h₁, toks := tk } := fun tk => by
    refine ⟨YOk, rfl, I3.bare, Un.kept old, ⟨_, hns₁, fun i x v e1 e2 e3' => ?_⟩, fun x c e => ?_, I3.hok.fresh (Nat.le_of_eq hC), fun x c e => I3.freeC x c (sub e), fun p hp => absurd (show p ∈ ([] : List (Addr × Obj)) from hp) (by simp), I3.hok.kept old, ?_⟩
    · have hik : k ≤ i := by
        by_cases z : i < k
        · rw [List.getElem?_append_left (by simpa using z), List.getElem?_replicate, if_pos z] at e2
          cases e2
        · omega
      obtain ⟨j, rfl⟩ : ∃ j, i = k + j := ⟨i - k, by omega⟩
      rw [List.getElem?_append_right (by simp)] at e2
      simp only [List.length_replicate, Nat.add_sub_cancel_left] at e2
      have e1' : (N.drop k)[j]? = some x := by rw [List.getElem?_drop]; exact e1
      have e4 : ((N.drop k).map some)[j]? = some (some x) := by rw [List.getElem?_map, e1']; rfl
      rw [S.cap, List.getElem?_map] at e4
      unfold capσ at e2
      rw [List.getElem?_map] at e2
      cases hj : caps[j]? with
      | none => rw [hj] at e4; cases e4
      | some q =>
        rw [hj] at e4 e2
        have e5 : X.N[q]? = some x := Option.some.inj e4
        have e6 : (σ[q]?).join = some v := Option.some.inj e2
        have e7 : σ[q]? = some (some v) := by
          cases z : σ[q]? with
          | none => rw [z] at e6; cases e6
          | some y => rw [z] at e6; simp only [Option.join_some] at e6; rw [e6]
        obtain ⟨k1, k2⟩ := S.fre x (List.mem_of_getElem? e1')
        obtain ⟨m3, hn3, hl3⟩ := I3.loc
        obtain ⟨u, ru, lu⟩ := hl3 q x v e5 e7 (by rcases k2 with z | z; exact .inr (.inl z); exact .inr (.inr z))
        refine ⟨u, ru, .inr ⟨relabel_free k1, ?_⟩⟩
        rcases lu with ⟨z, _⟩ | ⟨_, c, hc1, hc2⟩
        · rcases k2 with z' | z' <;> (have z2 : X.env.scope.names.lookup x = some .local := z; rw [z2] at z'; cases z')
        · obtain ⟨c', hc'⟩ := cloOf_has (env := X.env) (acc := []) k1
          have := cloOf_sub hcells (fun _ _ z => by simp at z) hc'
          rw [hc1] at this; cases this
          obtain ⟨oc, h5, h6⟩ := hc2
          exact ⟨c, hc', oc, old c oc h5, h6⟩
    · obtain ⟨v, oc, h5, h6⟩ := I3.cell x c (sub e)
      exact ⟨v, oc, old c oc h5, h6⟩
    · show _ = N.length
      rw [S.len]; simp [capσ]
  have fpY : ∀ {H' : Hp}, (∀ b ∈ fp, H' b = none) → ∀ b ∈ fp, FpOk Y [] H' b := fun hn b hb => ⟨hn b hb, (YOk.exf b hb).1, YOk.exfs b hb, .inl hb, (YOk.exf b hb).2, fun p hp => absurd (show p ∈ ([] : List (Addr × Obj)) from hp) (by simp)⟩
  have hnD : D ≠ C := by rw [← hC, e3, Heap.size_push, hDa]; exact Nat.ne_of_lt (Nat.lt_succ_self _)
  have loop : ∀ s4 : Shared, Inv Y [] (List.replicate k none ++ capσ σ caps) (upd H2 D (.lst [])) s4 → tn 0 s4.heap →
      codeAny (model X.prog X.w) X.A (.compLoop (.ListComp elt [⟨tg, iter, ifs, 0⟩] scope pos) 0 (.ref it) (.ref D) Y.env) (compPost (model X.prog X.w) X.A X.xe (some (assign (.Name y py) X.env)) (fun _ s' => SP X pins D0 .next s') (.ref D) C) s4 := by
    intro s4 I4 st4
    refine compLoop_own (fun n s' => ∃ i σ' H' ys, Inv Y [] σ' H' s' ∧ tn i s'.heap ∧ (∀ b ∈ fp, H' b = none) ∧ H' D = some (.lst ys) ∧ W i n ys σ' H') ?_ m0 ⟨0, _, _, [], I4, st4, fun b hb => (f3 b hb).1, upd_same, w0⟩
    rintro n s5 ⟨i, σ5, H5, ys, I5, st5, fr5, d5, w5⟩
    rcases turn i n ys σ5 H5 w5 d5 with ⟨stop, q⟩ | ⟨go, step⟩
    · refine wpAny_mono (T.done Y rfl rfl rfl hc i [] s5 σ5 H5 (fun _ _ => False) I5 (fpY fr5) st5 stop) (fun r s6 ⟨hr, I6⟩ => ?_) fun _ _ z => z
      subst hr
      obtain ⟨m6, hn6, _⟩ := id I6.loc
      have fC : H5 C = none := I6.free
      have neC : C ≠ X.env.locals := by rw [← hC]; exact Nat.ne_of_gt I3.lt
      have nC : ∀ x c, X.env.cells.lookup x = some c → c ≠ C := fun x c e z => by
        obtain ⟨v', oc, h5, _⟩ := I3.cell x c e
        have := Heap.lt_size h5
        rw [z, hC] at this
        exact Nat.lt_irrefl _ this
      have I7 : Inv X pins σ H5 s6 := by
        refine I3.call' (ch := fp) (s' := s6) I6.os I6.base I6.hok I6.bare fun b hb => ?_
        obtain ⟨g0, g1, g2, g3, g4, g5⟩ := f3 b hb
        exact ⟨g3, g1, g4, g5⟩
      show wpAny _ X.A (assign (.Name y py) X.env (.ref D)) _ _ _
      refine wpAny_assign_Name (store_ok2 I7 hN hiy hy (show RelV (.ref D) (.ref D) from rfl) (fun s8 I8 ⟨a8, sb8, ha8⟩ => ?_) hf)
      have na8 : C ≠ a8 := by
        rcases ha8 with z | z
        · rw [z]; exact neC
        · exact (nC y a8 z).symm
      refine ⟨m6, hn6.sameBut sb8 na8, fun h' hs' => ?_⟩
      refine ⟨_, H5, I8.turned (it := C) (t' := s8.toks) (fun b o hb e => hs'.extBut b o hb e) fC neC (.inr ?_) nC (fun p hp z => ?_), q⟩
      · rw [← hC]; exact I3.sz
      · have := Heap.lt_size (I3.pin p hp).1
        rw [z, hC] at this
        exact Nat.lt_irrefl _ this
    · refine wpAny_mono (T.item Y rfl rfl rfl hc i [] s5 σ5 H5 (fun _ _ => False) I5 (fpY fr5) st5 go) (fun r s6 ⟨u, hr, h6⟩ => ?_) fun _ _ z => z
      subst hr
      refine wpAny_mono h6 (fun _ s7 ⟨x, H7, I7, r7, y7, st7, fr7⟩ => ?_) fun _ _ z => z
      have I7' := I7.pinned (fpY fr7) (T.obj _ _ st7)
      have back : ∀ {σ8 : St} {H8 : Hp} {s8 : Shared}, Inv Y ([] ++ pinsAt fp s7.heap) σ8 H8 s8 → tn (i + 1) s8.heap ∧ ∀ b ∈ fp, H8 b = none := fun {σ8 H8 s8} I8 => by
        refine ⟨T.keep _ _ _ st7 fun b hb o e => (I8.pin (b, o) (List.mem_append_right _ (List.mem_append_right _ (mem_pinsAt hb e)))).1, fun b hb => ?_⟩
        obtain ⟨o, e, _⟩ := T.obj _ _ st7 b hb
        exact (I8.pin (b, o) (List.mem_append_right _ (List.mem_append_right _ (mem_pinsAt hb e)))).2.1
      refine wpAny_mono (hg C fp s3 _ _ s7 σ5 H7 x u _ I7' r7 (step x H7 y7)) (fun _ s8 ⟨σ8, H8, I8, q8⟩ => ?_) fun _ _ z => z
      refine wpAny_mono (ht C fp s3 _ _ s8 σ8 H8 _ I8 q8) (fun ok s9 ⟨H9, I9, q9⟩ => ?_) fun _ _ z => z
      cases ok with
      | false =>
        rw [if_neg Bool.false_ne_true] at q9 ⊢
        obtain ⟨d9, m', hm, w9⟩ := q9
        exact ⟨m', hm, i + 1, σ8, H9, ys, I9.unpinned, (back I9).1, (back I9).2, d9, w9⟩
      | true =>
        rw [if_pos rfl] at q9 ⊢
        refine wpAny_mono (he C fp s3 _ _ s9 σ8 H9 _ I9 q9) (fun y sA ⟨yv, HA, IA, rA, dA, lA, m', hm, wA⟩ => ?_) fun _ _ z => z
        obtain ⟨z, its, n', rits, hl, e⟩ := IA.lstM dA
        refine call_meets F.slot_list_append ⟨_, e, rfl⟩ F.entry_list_append (F.args_list_append_2 _ _) (PySem.list_append D its.toArray n' y (by rw [List.size_toArray]; omega)) ⟨e, ?_⟩
        have IB := IA.lset (its' := its ++ [y]) (f := fun a => a.push y) (t' := sA.toks) dA e (by simp) (rits.append (.cons rA .nil)) (by rw [List.length_append, List.length_singleton]; omega)
        exact ⟨m', hm, i + 1, σ8, _, ys ++ [yv], IB.unpinned, (back IB).1, (back IB).2, upd_same, wA⟩
  have st3 : tn 0 h₁ := T.keep _ _ _ st2 fun b _ o e => old b o (old2 b o e)
  have I5 := IY (s2.toks + ([] : List (Str × Value)).length)
  have es : ({ s3 with heap := h₁, toks := s2.toks + ([] : List (Str × Value)).length } : Shared) = { s2 with heap := h₁, toks := s2.toks + ([] : List (Str × Value)).length } := by rw [← hs3]
  rw [es] at I5
  refine codeAny_compStart_list ?_ ?_
  · exact loop _ I5 st3
  · exact T.self _ 0 _ _ _ st3 (loop _ I5 st3)
end L2

namespace L2
open PySem PySem.Spec PyProof.Rows
structure FunD (K : PySem.W.Frag) (x qual : Str) (st : Stmt) (f : Addr) (fd : FuncData) (items : Array Value) : Prop where
  ex : ∃ (oc : Value) (od : Option Addr) (kV doc pm : Value) (an : Option Addr) (cdv ct : Value) (osl : Array (Option Value)) (T : Addr) (o : Obj) (n : Nat),
    fd = PySem.W.fnOf x qual (defArgs st) (defBody st) (defScope st) (.ref T) kV doc pm an cdv ct ∧ K.lookup f = some ⟨oc, od, .func fd, osl⟩ ∧ PySem.W.codeIn K cdv qual = true ∧ K.lookup T = some o ∧ o.data = .seq items n
  kp : PySem.W.keepIn K (.ref f) = true
section
variable {P : Program} {w : World} {K : PySem.W.Frag} {mg : Str → Option Value} {base : Heap}
theorem FunD.ok {x qual : Str} {st : Stmt} {f : Addr} {fd : FuncData} {items : Array Value} {N ps : List Str} {k : Nat} {sp : Sp} (F : FunD K x qual st f fd items) (S : FnScope N ps (defScope st)) (len : ∀ vs H Q E, sp vs H Q E → vs.length = ps.length)
    (hbody : ∀ (cdv : Value) (A : Around) (outer : List Env) (s : Shared) (H : Hp) (vs : List V) (Q : VK) (E : XK), Room k (A.deeper (envOfC qual (defScope st) s.heap.objs.size f cdv)) → sp vs H Q E →
      ∃ t, PSs (cxOf CX0 P w K mg base N qual (defScope st) f cdv A outer s H E).nox (defBody st) t ∧ t { nx := fun _ H' => Q .non H', rt := Q } (start N vs) H) : FnOk P w K mg base CX0 (k + 1) f fd ps sp := by
  obtain ⟨oc, od, kV, doc, pm, an, cdv, ct, osl, T, o, n, rfl, lk, hcd, _⟩ := F.ex
  refine fn_of lk hcd S len fun A outer s H vs Q E hr hsp => ?_
  obtain ⟨t, h, q⟩ := hbody cdv A outer s H vs Q E hr hsp
  exact ⟨t, h.nox, q⟩
theorem FunD.binds {x qual : Str} {st : Stmt} {f : Addr} {fd : FuncData} {items : Array Value} {ps : List Str} (F : FunD K x qual st f fd items) 
    (h : ∀ (T : Addr) (kV doc pm : Value) (an : Option Addr) (cdv ct : Value) (us : List Value), us.length = ps.length →
      ∃ k : Option (Array Value) → Sem (List (Str × Value)), bindArgs (PySem.W.fnOf x qual (defArgs st) (defBody st) (defScope st) (.ref T) kV doc pm an cdv ct) ⟨us, []⟩ = seqItems? (.ref T) >>= k ∧ k (some items) = pure (ps.zip us)) : Binds K fd ps [] := by
  obtain ⟨oc, od, kV, doc, pm, an, cdv, ct, osl, T, o, n, rfl, lk, hcd, ho, hs⟩ := F.ex
  intro s us X hl
  rw [List.append_nil] at hl ⊢
  obtain ⟨k, h1, h2⟩ := h T kV doc pm an cdv ct us hl
  exact PySem.W.binds_K X rfl ho hs h1 h2
end
def rMax2 : List V → Hp → VK → Prop := fun xs H Q => ∃ i j, xs = [.int i, .int j] ∧ Q (.int (if j > i then j else i)) H
def rMin2 : List V → Hp → VK → Prop := fun xs H Q => ∃ i j, xs = [.int i, .int j] ∧ Q (.int (if j < i then j else i)) H
theorem i_max2 {H : Hp} {Q : VK} {i j : Int} (q : Q (.int (if j > i then j else i)) H) : rMax2 [.int i, .int j] H Q := ⟨i, j, rfl, q⟩
theorem i_min2 {H : Hp} {Q : VK} {i j : Int} (q : Q (.int (if j < i then j else i)) H) : rMin2 [.int i, .int j] H Q := ⟨i, j, rfl, q⟩
end L2

namespace L2
open PySem PySem.Spec PyProof.Rows
section
variable {X : Cx} {pins : List (Addr × Obj)} {σ : List (Option V)} {H : Hp} {s : Shared} {h' : Heap}
theorem Inv.turnedL {t' : Nat} {ch : List Addr} (I : Inv X pins σ H s) (k : ∀ b o, b ∉ ch → s.heap.get? b = some o → h'.get? b = some o) (hf : ∀ b ∈ ch, FpOk X pins H b) : Inv X pins σ H { s with heap := h', toks := t' } := by
  have nit : ∀ b u, H b = some u → b ∉ ch := fun b u e z => by rw [(hf b z).1] at e; cases e
  refine I.step (g' := s.gens) (d' := s.drawn) (ch := ch) (fun b hb => ?_) (fun b o _ _ hc e _ => k b o hc e) (fun b o _ _ hc e _ => ⟨o.slots, k b o hc e⟩) (fun _ _ _ _ n => n)
    (fun b o hc e => ⟨o, k b o hc e⟩) (fun _ _ e => e) (fun _ _ _ e => e) (fun b ps e => ⟨#[], by rw [e]; simp⟩) (fun m hm => ?_) (fun b u e => ?_) I.bare
  · obtain ⟨g0, g1, g2, g3, g4, g5⟩ := hf b hb
    exact ⟨g3, g1, g4, g5⟩
  · obtain ⟨o, es, ep, ho, r⟩ := hm
    exact ⟨o, es, ep, k _ o (fun z => (hf _ z).2.1 rfl) ho, r⟩
  · refine (I.hok b u e).stay (fun c v hc q => k c v ?_ q) (fun _ q => q) fun _ _ q => q
    rcases hc with z | z
    · rw [z]; exact nit b u e
    · exact nit c _ z
end
def Ite (K : PySem.W.Frag) (a : Addr) : It :=
  ⟨fun i H => ∃ xs x, SqL K H a xs ∧ xs[i]? = some x, fun i H x H' => ∃ t, x = .ref t ∧ H t = none ∧ ∀ xs, SqL K H a xs → ∃ v, xs[i]? = some v ∧ H' = upd H t (.tup [.int i, v]), fun i H => ∃ xs, SqL K H a xs ∧ xs.length ≤ i⟩
section
variable {X : Cx}
def iEnum (K : PySem.W.Frag) (ta : TA) : TI := fun σ H R => ta σ H fun vs H1 => ∃ a, vs = [.ref a] ∧ (∃ xs, SqL K H1 a xs) ∧ R (Ite K a) H1
end
section
variable {σ : St} {H : Hp} {Q : VK} {D : Ends} {g : TG} {tb : TS} {te : TE} {aa : TA} {K : PySem.W.Frag}
theorem i_forE (h : aa σ H fun vs H1 => ∃ a, vs = [.ref a] ∧ (∃ xs, SqL K H1 a xs) ∧ ForJ (Ite K a) g tb D σ H1) : tFor (iEnum K aa) g tb D σ H := h
theorem i_for3 (h : aa σ H fun vs H1 => ∃ i j k : Int, vs = [.int i, .int j, .int k] ∧ k ≠ 0 ∧ (j - i).natAbs < 1000000 ∧ k.natAbs < 1000 ∧ Builtin.Range.small i j k = true ∧ ForJ (Its i k (Builtin.Range.rangeSize i j k).toNat) g tb D σ H1) : tFor (iRng3 aa) g tb D σ H := h
theorem i_for2 (h : aa σ H fun vs H1 => ∃ i j : Int, vs = [.int i, .int j] ∧ (-(2 ^ 62) ≤ i ∧ i < 2 ^ 62 ∧ -(2 ^ 62) ≤ j ∧ j < 2 ^ 62) ∧ ForJ (Itr i (j - i).toNat) g tb D σ H1) : tFor (iRng2 aa) g tb D σ H := h
theorem i_forT (h : te σ H fun x H1 => ∃ a, x = .ref a ∧ (∃ xs, SqT K H1 a xs) ∧ ForJ (Itt K a) g tb D σ H1) : tFor (iTup K te) g tb D σ H := h
end
end L2

namespace L2
open PySem PySem.Spec PyProof.Rows
section
variable {σ : St} {H : Hp} {Q : VK} {D : Ends} {g : TG} {tb : TS} {te tl to ti : TE} {tc : TT} {aa : TA} {K : PySem.W.Frag} {k : Nat} {caps : List Nat} {R : St → Hp → Prop}
theorem i_gtup {n : Nat} {t : TGs} {a : Addr} {xs : List V} (h : H a = some (.tup xs)) (l : xs.length = n) (q : t xs σ H R) : gTup K n t (.ref a) σ H R := ⟨a, xs, rfl, SqT.of h, l, q⟩
theorem i_gcons {t : TG} {u : TGs} {v : V} {r : List V} (q : t v σ H fun σ' H' => u r σ' H' R) : gCons t u (v :: r) σ H R := ⟨v, r, rfl, q⟩
theorem i_gnil (q : R σ H) : gNil [] σ H R := ⟨rfl, q⟩
theorem i_gsub {t : TSet} {v : V} (q : to σ H fun o H1 => ti σ H1 fun i H2 => t o i v H2 fun H3 => R σ H3) : gSub to ti t v σ H R := q
def tSetC (iy : Nat) (t : TE) : TS := fun D0 σ H => t σ H fun x H1 => D0.nx (σ.set iy (some x)) H1
theorem i_setC {iy : Nat} {t : TE} (h : t σ H fun x H1 => D.nx (σ.set iy (some x)) H1) : tSetC iy t D σ H := h
theorem i_compL (h : te σ H fun x H1 => ∃ a, x = .ref a ∧ (∃ xs, SqL K H1 a xs) ∧ CompJ (Itl K a) k caps g tc tl σ Q H1) : tComp (iList K te) k caps g tc tl σ H Q := h
theorem i_comp3 (h : aa σ H fun vs H1 => ∃ i j z : Int, vs = [.int i, .int j, .int z] ∧ z ≠ 0 ∧ (j - i).natAbs < 1000000 ∧ z.natAbs < 1000 ∧ Builtin.Range.small i j z = true ∧ CompJ (Its i z (Builtin.Range.rangeSize i j z).toNat) k caps g tc te σ Q H1) : tComp (iRng3 aa) k caps g tc te σ H Q := h
theorem comp_l {a : Addr} {xs : List V} (h : ∀ D, H D = none → ∃ Pv : Nat → List V → St → Hp → Prop, Pv 0 [] (List.replicate k none ++ capσ σ caps) (upd H D (.lst [])) ∧ (∀ i ys σ' H', i ≤ xs.length → Pv i ys σ' H' → SqL K H' a xs) ∧
      (∀ i x ys σ' H', xs[i]? = some x → Pv i ys σ' H' → H' D = some (.lst ys) → g x σ' H' fun σ3 H3 => tc σ3 H3 fun b H4 => if b = true then te σ3 H4 (Yield D xs.length i ys Pv σ3) else H4 D = some (.lst ys) ∧ ∃ m', m' < xs.length - i ∧ (m' = xs.length - (i + 1) ∧ i + 1 ≤ xs.length ∧ Pv (i + 1) ys σ3 H4)) ∧
      ∀ ys σ' H', Pv xs.length ys σ' H' → H' D = some (.lst ys) → Q (.ref D) H') : CompJ (Itl K a) k caps g tc te σ Q H := by
  intro D hD
  obtain ⟨Pv, h0, hq, hs, hd⟩ := h D hD
  refine ⟨fun i m ys σ' H' => m = xs.length - i ∧ i ≤ xs.length ∧ Pv i ys σ' H', ⟨xs.length, by simp, Nat.zero_le _, h0⟩, ?_⟩
  rintro i m ys σ' H' ⟨rfl, hi, p⟩ hl
  have q := hq i ys σ' H' hi p
  by_cases hlt : i < xs.length
  · refine .inr ⟨⟨xs, xs[i], q, by simp [hlt]⟩, fun x H2 y => ?_⟩
    obtain ⟨e, y⟩ := y
    subst e
    exact hs i x ys σ' _ (y xs q) p hl
  · have e : i = xs.length := by omega
    subst e
    exact .inl ⟨⟨xs, q, Nat.le_refl _⟩, hd ys σ' H' p hl⟩
theorem comp_s {lo st : Int} {n : Nat} (h : ∀ D, H D = none → ∃ Pv : Nat → List V → St → Hp → Prop, Pv 0 [] (List.replicate k none ++ capσ σ caps) (upd H D (.lst [])) ∧
      (∀ i ys σ' H', i < n → Pv i ys σ' H' → H' D = some (.lst ys) → g (.int (lo + i * st)) σ' H' fun σ3 H3 => tc σ3 H3 fun b H4 => if b = true then te σ3 H4 (Yield D n i ys Pv σ3) else H4 D = some (.lst ys) ∧ ∃ m', m' < n - i ∧ (m' = n - (i + 1) ∧ i + 1 ≤ n ∧ Pv (i + 1) ys σ3 H4)) ∧
      ∀ ys σ' H', Pv n ys σ' H' → H' D = some (.lst ys) → Q (.ref D) H') : CompJ (Its lo st n) k caps g tc te σ Q H := by
  intro D hD
  obtain ⟨Pv, h0, hs, hd⟩ := h D hD
  refine ⟨fun i m ys σ' H' => m = n - i ∧ i ≤ n ∧ Pv i ys σ' H', ⟨n, by simp, Nat.zero_le _, h0⟩, ?_⟩
  rintro i m ys σ' H' ⟨rfl, hi, p⟩ hl
  by_cases hlt : i < n
  · refine .inr ⟨hlt, fun x H2 y => ?_⟩
    obtain ⟨e, y⟩ := y
    subst e y
    exact hs i ys σ' _ hlt p hl
  · have e : i = n := by omega
    subst e
    exact .inl ⟨Nat.le_refl _, hd ys σ' H' p hl⟩
def PvM (H : Hp) (D : Addr) (σ : St) (k : Nat) (caps : List Nat) (f : Nat → V) : Nat → List V → St → Hp → Prop := fun i ys σ' H' => (∃ own : St, own.length = k ∧ σ' = own ++ capσ σ caps) ∧ ys = (List.range i).map f ∧ Same H H'
def YieldM (H : Hp) (D : Addr) (σ : St) (k : Nat) (caps : List Nat) (f : Nat → V) (n i : Nat) (σ3 : St) : VK := Yield D n i ((List.range i).map f) (PvM H D σ k caps f) σ3
theorem yieldM {D : Addr} {f : Nat → V} {n i : Nat} {y : V} {H' H5 : Hp} {σ3 : St} (own : St) (hn : n ≤ 1000) (hi : i < n) (hD : H D = none) (s : Same H H') (h : H' D = some (.lst ((List.range i).map f))) (s5 : Same H' H5) (e : y = f i) (l : own.length = k) (es : σ3 = own ++ capσ σ caps) : YieldM H D σ k caps f n i σ3 y H5 := by
  refine yield_ok (s5 _ _ h) (by rw [List.length_map, List.length_range]; exact Nat.lt_of_lt_of_le (by omega : i < 1000) k1000) hi ⟨⟨own, l, es⟩, ?_, same_put (s.trans s5) hD⟩
  rw [List.range_succ, List.map_append, e]; rfl
theorem comp_rm {lo : Int} {n : Nat} (f : Nat → V) (hs : ∀ D i own H', H D = none → i < n → own.length = k → Same H H' → H' D = some (.lst ((List.range i).map f)) → g (.int (lo + i)) (own ++ capσ σ caps) H' fun σ3 H3 => tc σ3 H3 fun b H4 => if b = true then te σ3 H4 (YieldM H D σ k caps f n i σ3) else H4 D = some (.lst ((List.range i).map f)) ∧ ∃ m', m' < n - i ∧ (m' = n - (i + 1) ∧ i + 1 ≤ n ∧ PvM H D σ k caps f (i + 1) ((List.range i).map f) σ3 H4))
    (hd : ∀ D H', H D = none → Same H H' → H' D = some (.lst ((List.range n).map f)) → Q (.ref D) H') : CompJ (Itr lo n) k caps g tc te σ Q H := by
  refine comp_r fun D hD => ⟨PvM H D σ k caps f, ⟨⟨List.replicate k none, by simp, rfl⟩, rfl, same_upd hD⟩, ?_, ?_⟩
  · rintro i ys σ' H' hi ⟨⟨own, l, rfl⟩, rfl, s⟩ h
    exact hs D i own H' hD hi l s h
  · rintro ys σ' H' ⟨_, rfl, s⟩ h
    exact hd D H' hD s h
theorem comp_lm {a : Addr} {xs : List V} (f : Nat → V) (ha : H a = some (.lst xs)) (hs : ∀ D i x own H', H D = none → xs[i]? = some x → own.length = k → Same H H' → H' D = some (.lst ((List.range i).map f)) → g x (own ++ capσ σ caps) H' fun σ3 H3 => tc σ3 H3 fun b H4 => if b = true then te σ3 H4 (YieldM H D σ k caps f xs.length i σ3) else H4 D = some (.lst ((List.range i).map f)) ∧ ∃ m', m' < xs.length - i ∧ (m' = xs.length - (i + 1) ∧ i + 1 ≤ xs.length ∧ PvM H D σ k caps f (i + 1) ((List.range i).map f) σ3 H4))
    (hd : ∀ D H', H D = none → Same H H' → H' D = some (.lst ((List.range xs.length).map f)) → Q (.ref D) H') : CompJ (Itl K a) k caps g tc te σ Q H := by
  refine comp_l (xs := xs) fun D hD => ⟨PvM H D σ k caps f, ⟨⟨List.replicate k none, by simp, rfl⟩, rfl, same_upd hD⟩, ?_, ?_, ?_⟩
  · rintro i ys σ' H' hi ⟨_, _, s⟩
    exact SqL.of (s _ _ ha)
  · rintro i x ys σ' H' hi ⟨⟨own, l, rfl⟩, rfl, s⟩ h
    exact hs D i x own H' hD hi l s h
  · rintro ys σ' H' ⟨_, rfl, s⟩ h
    exact hd D H' hD s h
theorem i_ipI {f : Int → Int → Int} {i j : Int} (q : Q (.int (f i j)) H) : ipI f (.int i) (.int j) H Q := ⟨i, j, rfl, rfl, q⟩
theorem i_aug {n : Nat} {t : TIp} {x : V} (e : σ[n]? = some (some x)) (h : te σ H fun y H1 => t x y H1 fun z H2 => D.nx (σ.set n (some z)) H2) : tAug n te t D σ H := ⟨x, e, h⟩
end
theorem ps_setC {X : Cx} {y : Str} {iy : Nat} {py spos : Pos} {elt iter tg : Expr} {ifs : List Expr} {scope : Scope} {pos : Pos} {N : List Str} {k : Nat} {caps : List Nat} {wi : TI} {g : TG} {tc : TT} {te : TE}
    (hc : X.calm = true) (S : CompOk X.N X.env.scope.names N k caps scope) (hi : PI X tg iter wi)
    (hg : ∀ C fp s H, PG (cxComp X N scope C fp s H) tg g) (ht : ∀ C fp s H, PCs (cxComp X N scope C fp s H) ifs tc) (he : ∀ C fp s H, PE (cxComp X N scope C fp s H) elt te)
    (hN : X.N.Nodup) (hiy : X.N[iy]? = some y) (hy : Loc X.env.scope y) (hsw : swapsWith (.ListComp elt [⟨tg, iter, ifs, 0⟩] scope pos) (some (.Name y py)) spos.line X.env = pure true := by rfl)
    (hs : ∀ x, foldedSetIterable iter X.env x = pure x := by intro _; rfl) (hf : X.fn y = true ∨ X.env.scope.names.lookup y = some .local := by first | exact .inl rfl | exact .inr rfl) :
    PS X (.Assign [.Name y py] (.ListComp elt [⟨tg, iter, ifs, 0⟩] scope pos) spos) (tSetC iy (tComp wi k caps g tc te)) := ps_setComp hc S hi hg ht he hN hiy hy hsw hs hf
end L2

namespace L2
open PySem PySem.Spec PyProof.Rows
end L2

namespace L2
open PySem PySem.Spec PyProof.Rows
abbrev TEm := Addr → St → Hp → (St → Hp → Prop) → Prop
theorem compTurn_l2o (elt t1 i1 t2 i2 : Expr) (f1 f2 : List Expr) (scope : Scope) (pos : Pos) (it acc : Value) (env : Env) :
    compTurn (.ListComp elt [⟨t1, i1, f1, 0⟩, ⟨t2, i2, f2, 0⟩] scope pos) 0 it acc env = (do
      standAt i1.pos
      match ← pyNext it with
      | none => pure (.done .next)
      | some v =>
        letOwnedTupleGo t1 it v
        assign t1 env v
        let ok ← forIn f1 true fun c r => if r = true then do let ok ← isTrue c env (eval c env); pure (ForInStep.yield ok) else pure (ForInStep.yield r)
        if ok then
          let x ← eval i2 env
          standAt i2.pos
          let x ← foldedSetIterable i2 env x
          let jt ← holding [x] (pyIter x)
          let _ ← runOwn (.compStart (.ListComp elt [⟨t1, i1, f1, 0⟩, ⟨t2, i2, f2, 0⟩] scope pos) 1 jt acc env) env
        again (.compLoop (.ListComp elt [⟨t1, i1, f1, 0⟩, ⟨t2, i2, f2, 0⟩] scope pos) 0 it acc env)) := by rfl
theorem compTurn_l2i (elt t1 i1 t2 i2 : Expr) (f1 f2 : List Expr) (scope : Scope) (pos : Pos) (it acc : Value) (env : Env) :
    compTurn (.ListComp elt [⟨t1, i1, f1, 0⟩, ⟨t2, i2, f2, 0⟩] scope pos) 1 it acc env = (do
      standAt i2.pos
      match ← pyNext it with
      | none => pure (.done .next)
      | some v =>
        letOwnedTupleGo t2 it v
        assign t2 env v
        let ok ← forIn f2 true fun c r => if r = true then do let ok ← isTrue c env (eval c env); pure (ForInStep.yield ok) else pure (ForInStep.yield r)
        if ok then
          (do let _ ← call (.builtin "list.append") [acc, ← eval elt env])
        again (.compLoop (.ListComp elt [⟨t1, i1, f1, 0⟩, ⟨t2, i2, f2, 0⟩] scope pos) 1 it acc env)) := by rfl
section
variable {prog : Program} {w : World} {A : Around} {R : Result → Shared → Prop} {s : Shared} {elt t1 i1 t2 i2 : Expr} {f1 f2 : List Expr} {scope : Scope} {pos : Pos} {it acc : Value} {env : Env}
theorem compLoop_in (I : Nat → Shared → Prop)
    (turn : ∀ n s, I n s → wpAny (model prog w) A (pyNext it) (fun r s₁ => match r with
      | none => R (.ok .next) s₁
      | some v => wpAny (model prog w) A (letOwnedTupleGo t2 it v) (fun _ s₁' => wpAny (model prog w) A (assign t2 env v) (fun _ s₂ =>
          wpAny (model prog w) A (forIn f2 true fun c r => if r = true then do let ok ← isTrue c env (eval c env); pure (ForInStep.yield ok) else pure (ForInStep.yield r)) (fun ok s₃ =>
            if ok = true then wpAny (model prog w) A (eval elt env) (fun x s₄ =>
              wpAny (model prog w) A (call (.builtin "list.append") [acc, x]) (fun _ s₅ => ∃ m, m < n ∧ I m s₅) (fun _ _ => False) s₄) (fun _ _ => False) s₃
            else ∃ m, m < n ∧ I m s₃) (fun _ _ => False) s₂) (fun _ _ => False) s₁') (fun _ _ => False) s₁) (fun _ _ => False) s)
    (n : Nat) (h : I n s) : codeAny (model prog w) A (.compLoop (.ListComp elt [⟨t1, i1, f1, 0⟩, ⟨t2, i2, f2, 0⟩] scope pos) 1 it acc env) R s := by
  refine codeAny_loop rfl I (fun n s hI => ?_) n h
  show wpAny _ A ((compTurn (.ListComp elt [⟨t1, i1, f1, 0⟩, ⟨t2, i2, f2, 0⟩] scope pos) 1 it acc env).onRaise (fun x => do noteFrame x env; theTreesLotGoes x)) _ _ s
  refine wpAny_noted ?_
  rw [compTurn_l2i]
  refine wpAny_bind (wpAny_standAt (wpAny_bind (wpAny_mono (turn n s hI) (fun r s₁ h₁ => ?_) fun _ _ h' => h'.elim)))
  cases r with
  | none => exact wpAny_pure h₁
  | some v =>
    refine wpAny_bind (wpAny_mono h₁ (fun _ s₁' h₁' => ?_) fun _ _ h' => h'.elim)
    refine wpAny_bind (wpAny_mono h₁' (fun _ s₂ h₂ => wpAny_bind (wpAny_mono h₂ (fun ok s₃ h₃ => ?_) fun _ _ h' => h'.elim)) fun _ _ h' => h'.elim)
    cases ok with
    | false => exact wpAny_pure ⟨rfl, h₃⟩
    | true =>
      exact wpAny_bind (wpAny_bind (wpAny_mono h₃ (fun x s₄ h₄ => wpAny_bind (wpAny_mono h₄ (fun _ s₅ h₅ => wpAny_pure (wpAny_pure ⟨rfl, h₅⟩)) fun _ _ h' => h'.elim)) fun _ _ h' => h'.elim))
theorem compLoop_out (hs2 : ∀ x, foldedSetIterable i2 env x = pure x) (I : Nat → Shared → Prop)
    (turn : ∀ n s, I n s → wpAny (model prog w) A (pyNext it) (fun r s₁ => match r with
      | none => R (.ok .next) s₁
      | some v => wpAny (model prog w) A (letOwnedTupleGo t1 it v) (fun _ s₁' => wpAny (model prog w) A (assign t1 env v) (fun _ s₂ =>
          wpAny (model prog w) A (forIn f1 true fun c r => if r = true then do let ok ← isTrue c env (eval c env); pure (ForInStep.yield ok) else pure (ForInStep.yield r)) (fun ok s₃ =>
            if ok = true then wpAny (model prog w) A (eval i2 env) (fun x s₄ =>
              wpAny (model prog w) A (pyIter x) (fun jt s₅ => codeAny (model prog w) A (.compStart (.ListComp elt [⟨t1, i1, f1, 0⟩, ⟨t2, i2, f2, 0⟩] scope pos) 1 jt acc env) (fun r s₆ => match r with | .ok _ => ∃ m, m < n ∧ I m s₆ | .error _ => False) s₅) (fun _ _ => False) s₄) (fun _ _ => False) s₃
            else ∃ m, m < n ∧ I m s₃) (fun _ _ => False) s₂) (fun _ _ => False) s₁') (fun _ _ => False) s₁) (fun _ _ => False) s)
    (n : Nat) (h : I n s) : codeAny (model prog w) A (.compLoop (.ListComp elt [⟨t1, i1, f1, 0⟩, ⟨t2, i2, f2, 0⟩] scope pos) 0 it acc env) R s := by
  refine codeAny_loop rfl I (fun n s hI => ?_) n h
  show wpAny _ A ((compTurn (.ListComp elt [⟨t1, i1, f1, 0⟩, ⟨t2, i2, f2, 0⟩] scope pos) 0 it acc env).onRaise (fun x => do noteFrame x env; theTreesLotGoes x)) _ _ s
  refine wpAny_noted ?_
  rw [compTurn_l2o]
  refine wpAny_bind (wpAny_standAt (wpAny_bind (wpAny_mono (turn n s hI) (fun r s₁ h₁ => ?_) fun _ _ h' => h'.elim)))
  cases r with
  | none => exact wpAny_pure h₁
  | some v =>
    refine wpAny_bind (wpAny_mono h₁ (fun _ s₁' h₁' => ?_) fun _ _ h' => h'.elim)
    refine wpAny_bind (wpAny_mono h₁' (fun _ s₂ h₂ => wpAny_bind (wpAny_mono h₂ (fun ok s₃ h₃ => ?_) fun _ _ h' => h'.elim)) fun _ _ h' => h'.elim)
    cases ok with
    | false => exact wpAny_pure ⟨rfl, h₃⟩
    | true =>
      refine wpAny_bind (wpAny_mono h₃ (fun x s₄ h₄ => wpAny_bind (wpAny_standAt (wpAny_bind (wpAny_of_eq (hs2 x) (wpAny_bind (wpAny_holding (wpAny_mono h₄ (fun jt s₅ h₅ => ?_) fun _ _ h' => h'.elim))))))) fun _ _ h' => h'.elim)
      refine wpAny_bind (wpAny_runOwn (codeAny_mono h₅ fun r s₆ h₆ => ?_))
      cases r with
      | error _ => exact h₆.elim
      | ok f => exact wpAny_pure ⟨rfl, h₆⟩
theorem compStart_in
    (h0 : codeAny (model prog w) A (.compLoop (.ListComp elt [⟨t1, i1, f1, 0⟩, ⟨t2, i2, f2, 0⟩] scope pos) 1 it acc env) R s)
    (h : wpAny (model prog w) A (pyIter it) (fun it' s' => codeAny (model prog w) A (.compLoop (.ListComp elt [⟨t1, i1, f1, 0⟩, ⟨t2, i2, f2, 0⟩] scope pos) 1 it' acc env) R s')
      (notedBy (model prog w) A env fun x s' => R (.error x) s') s) :
    codeAny (model prog w) A (.compStart (.ListComp elt [⟨t1, i1, f1, 0⟩, ⟨t2, i2, f2, 0⟩] scope pos) 1 it acc env) R s := by
  refine codeAny_of_tree ?_
  show wpAny _ _ ((compStart (.ListComp elt [⟨t1, i1, f1, 0⟩, ⟨t2, i2, f2, 0⟩] scope pos) 1 it acc env).onRaise (fun x => do noteFrame x env; standAt theWindowsPlace)) _ _ s
  apply wpAny_notedAt
  unfold compStart
  show wpAny _ _ (ask >>= _) _ _ s
  refine wpAny_bind (wpAny_askSetting (wpAny_ite ?_))
  split
  · first
      | exact wpAny_pure ⟨rfl, h0⟩
      | exact wpAny_bind (wpAny_pure (wpAny_pure ⟨rfl, h0⟩))
  · refine wpAny_bind (wpAny_rule ?_)
    first
      | exact wpAny_bind (wpAny_standAt (wpAny_bind (wpAny_mono h (fun x s' h' => wpAny_pure ⟨rfl, h'⟩) fun _ _ z => z)))
      | (show wpAny _ _ (standAt i2.pos >>= _) _ _ s
         exact wpAny_bind (wpAny_standAt (wpAny_bind (wpAny_mono h (fun x s' h' => wpAny_pure ⟨rfl, h'⟩) fun _ _ z => z))))
end
def Emits (Y : Cx) (e i2 : Expr) (em : TEm) : Prop :=
  ∀ (D : Addr) (pins : List (Addr × Obj)) (s : Shared) (σ : St) (H : Hp) (Q : St → Hp → Prop), Inv Y pins σ H s → em D σ H Q →
    wpAny (model Y.prog Y.w) Y.A (eval i2 Y.env) (fun x s1 => wpAny (model Y.prog Y.w) Y.A (pyIter x) (fun jt s2 =>
      codeAny (model Y.prog Y.w) Y.A (.compStart e 1 jt (.ref D) Y.env) (fun r s3 => match r with | .ok _ => ∃ σ' H', Inv Y pins σ' H' s3 ∧ Q σ' H' | .error _ => False) s2) (fun _ _ => False) s1) (fun _ _ => False) s
def tEmit (wi : TI) (g : TG) (tc : TT) (te : TE) : TEm := fun D σ H Q => wi σ H fun J H1 =>
  ∃ W : Nat → Nat → List V → St → Hp → Prop, (∃ ys m, H1 D = some (.lst ys) ∧ W 0 m ys σ H1) ∧
    ∀ i m ys σ' H', W i m ys σ' H' → H' D = some (.lst ys) →
      (J.stop i H' ∧ Q σ' H') ∨ (J.go i H' ∧ ∀ x H2, J.yld i H' x H2 → g x σ' H2 fun σ3 H3 => tc σ3 H3 fun b H4 =>
        if b = true then te σ3 H4 fun y H5 => H5 D = some (.lst ys) ∧ ys.length < sizeLine ∧ ∃ m', m' < m ∧ W (i + 1) m' (ys ++ [y]) σ3 (upd H5 D (.lst (ys ++ [y])))
        else H4 D = some (.lst ys) ∧ ∃ m', m' < m ∧ W (i + 1) m' ys σ3 H4)
theorem emits {Y : Cx} {elt t1 i1 t2 i2 : Expr} {f1 f2 : List Expr} {scope : Scope} {pos : Pos} {wi : TI} {g : TG} {tc : TT} {te : TE} (hc : Y.calm = true) (hx : Y.xe = fun _ _ => False) (hi : PI Y t2 i2 wi) (hg : PG Y t2 g) (ht : PCs Y f2 tc) (he : PE Y elt te) :
    Emits Y (.ListComp elt [⟨t1, i1, f1, 0⟩, ⟨t2, i2, f2, 0⟩] scope pos) i2 (tEmit wi g tc te) := by
  intro D pins s σ H Q I h
  have h0 := hi pins s σ H _ I h
  rw [hx] at h0
  refine wpAny_mono h0 (fun v s1 h1 => wpAny_mono h1 (fun jt s2 h2 => ?_) fun _ _ z => z) fun _ _ z => z
  obtain ⟨it, fp, tn, J, H2, rfl, I2, T, st2, fq, W, ⟨ys0, m0, d0, w0⟩, turn⟩ := h2
  have stat : ∀ {H' : Hp}, (∀ b ∈ fp, H' b = none) → ∀ b ∈ fp, FpOk Y pins H' b := fun hn b hb => ⟨hn b hb, (fq b hb).2⟩
  have loop : codeAny (model Y.prog Y.w) Y.A (.compLoop (.ListComp elt [⟨t1, i1, f1, 0⟩, ⟨t2, i2, f2, 0⟩] scope pos) 1 (.ref it) (.ref D) Y.env) (fun r s3 => match r with | .ok _ => ∃ σ' H', Inv Y pins σ' H' s3 ∧ Q σ' H' | .error _ => False) s2 := by
    refine compLoop_in (fun n s' => ∃ i σ' H' ys, Inv Y pins σ' H' s' ∧ tn i s'.heap ∧ (∀ b ∈ fp, H' b = none) ∧ H' D = some (.lst ys) ∧ W i n ys σ' H') ?_ m0 ⟨0, _, _, ys0, I2, st2, fun b hb => (fq b hb).1, d0, w0⟩
    rintro n s5 ⟨i, σ5, H5, ys, I5, st5, fr5, d5, w5⟩
    rcases turn i n ys σ5 H5 w5 d5 with ⟨stop, q⟩ | ⟨go, step⟩
    · refine wpAny_mono (T.done Y rfl rfl rfl hc i pins s5 σ5 H5 (fun _ _ => False) I5 (stat fr5) st5 stop) (fun r s6 ⟨hr, I6⟩ => ?_) fun _ _ z => z
      subst hr
      exact ⟨σ5, H5, I6, q⟩
    · refine wpAny_mono (T.item Y rfl rfl rfl hc i pins s5 σ5 H5 (fun _ _ => False) I5 (stat fr5) st5 go) (fun r s6 ⟨u, hr, h6⟩ => ?_) fun _ _ z => z
      subst hr
      refine wpAny_mono h6 (fun _ s7 ⟨x, H7, I7, r7, y7, st7, fr7⟩ => ?_) fun _ _ z => z
      have I7' := I7.pinned (stat fr7) (T.obj _ _ st7)
      have back : ∀ {σ8 : St} {H8 : Hp} {s8 : Shared}, Inv Y (pins ++ pinsAt fp s7.heap) σ8 H8 s8 → tn (i + 1) s8.heap ∧ ∀ b ∈ fp, H8 b = none := fun {σ8 H8 s8} I8 => by
        refine ⟨T.keep _ _ _ st7 fun b hb o e => (I8.pin (b, o) (List.mem_append_right _ (List.mem_append_right _ (mem_pinsAt hb e)))).1, fun b hb => ?_⟩
        obtain ⟨o, e, _⟩ := T.obj _ _ st7 b hb
        exact (I8.pin (b, o) (List.mem_append_right _ (List.mem_append_right _ (mem_pinsAt hb e)))).2.1
      have g1 := hg _ s7 σ5 H7 x u _ I7' r7 (step x H7 y7)
      rw [hx] at g1
      refine wpAny_mono g1 (fun _ s8 ⟨σ8, H8, I8, q8⟩ => ?_) fun _ _ z => z
      have g2 := ht _ s8 σ8 H8 _ I8 q8
      rw [hx] at g2
      refine wpAny_mono g2 (fun ok s9 ⟨H9, I9, q9⟩ => ?_) fun _ _ z => z
      cases ok with
      | false =>
        rw [if_neg Bool.false_ne_true] at q9 ⊢
        obtain ⟨d9, m', hm, w9⟩ := q9
        exact ⟨m', hm, i + 1, σ8, H9, ys, I9.unpinned, (back I9).1, (back I9).2, d9, w9⟩
      | true =>
        rw [if_pos rfl] at q9 ⊢
        have g3 := he _ s9 σ8 H9 _ I9 q9
        rw [hx] at g3
        refine wpAny_mono g3 (fun y sA ⟨yv, HA, IA, rA, dA, lA, m', hm, wA⟩ => ?_) fun _ _ z => z
        obtain ⟨z, its, n', rits, hl, e⟩ := IA.lstM dA
        refine call_meets F.slot_list_append ⟨_, e, rfl⟩ F.entry_list_append (F.args_list_append_2 _ _) (PySem.list_append D its.toArray n' y (by rw [List.size_toArray]; omega)) ⟨e, ?_⟩
        have IB := IA.lset (its' := its ++ [y]) (f := fun a => a.push y) (t' := sA.toks) dA e (by simp) (rits.append (.cons rA .nil)) (by rw [List.length_append, List.length_singleton]; omega)
        exact ⟨m', hm, i + 1, σ8, _, ys ++ [yv], IB.unpinned, (back IB).1, (back IB).2, upd_same, wA⟩
  exact compStart_in loop (T.self _ 0 _ _ _ st2 loop)
def tComp2 (wi : TI) (k : Nat) (caps : List Nat) (g : TG) (tc : TT) (em : TEm) : TE := fun σ H Q => wi σ H fun J H1 => ∀ D, H1 D = none →
  ∃ W : Nat → Nat → St → Hp → Prop, (∃ m, W 0 m (List.replicate k none ++ capσ σ caps) (upd H1 D (.lst []))) ∧
    ∀ i m σ' H', W i m σ' H' → (J.stop i H' ∧ Q (.ref D) H') ∨ (J.go i H' ∧ ∀ x H2, J.yld i H' x H2 → g x σ' H2 fun σ3 H3 => tc σ3 H3 fun b H4 =>
        if b = true then em D σ3 H4 fun σ5 H5 => ∃ m', m' < m ∧ W (i + 1) m' σ5 H5 else ∃ m', m' < m ∧ W (i + 1) m' σ3 H4)
theorem pe_comp2 {X : Cx} {elt iter tg iter2 tg2 : Expr} {ifs ifs2 : List Expr} {scope : Scope} {pos : Pos} {N : List Str} {k : Nat} {caps : List Nat} {wi : TI} {g : TG} {tc : TT} {em : TEm}
    (hc : X.calm = true) (S : CompOk X.N X.env.scope.names N k caps scope) (hi : PI X tg iter wi)
    (hg : ∀ C fp s H, PG (cxComp X N scope C fp s H) tg g) (ht : ∀ C fp s H, PCs (cxComp X N scope C fp s H) ifs tc) (hem : ∀ C fp s H, Emits (cxComp X N scope C fp s H) (.ListComp elt [⟨tg, iter, ifs, 0⟩, ⟨tg2, iter2, ifs2, 0⟩] scope pos) iter2 em) (hs2 : ∀ C fp s H x, foldedSetIterable iter2 (cxComp X N scope C fp s H).env x = pure x)
    (hs : ∀ x, foldedSetIterable iter X.env x = pure x := by intro _; rfl) : PE X (.ListComp elt [⟨tg, iter, ifs, 0⟩, ⟨tg2, iter2, ifs2, 0⟩] scope pos) (tComp2 wi k caps g tc em) := by
  intro pins s σ H Q I h
  have hcells : ∀ y ∈ scope.names, y.2 = .free → ∃ c, X.env.cells.lookup y.1 = some c := fun y hy hf => I.ok.has y.1 (S.free y hy hf)
  rw [eval_ListComp]
  refine wpAny_comprehension_free (use := none) rfl hs (closure_ok hcells) S.kind S.loc (thn (hi pins s σ H _ I h) fun v s1 h1 => thn h1 fun itv s2 h2 => ?_)
  obtain ⟨it, fp, tn, J, H2, rfl, I2, T, st2, f2, rd⟩ := h2
  have hD : H2 s2.heap.objs.size = none := I2.fresh
  obtain ⟨W, ⟨m0, w0⟩, turn⟩ := rd s2.heap.objs.size hD
  refine wpAny_newList ?_
  have I3 : Inv X pins σ (upd H2 s2.heap.objs.size (.lst [])) { s2 with heap := s2.heap.push { cls := .type "list", data := .seq ([] : List Value).toArray }, toks := s2.toks } := I2.lnew .nil (Nat.zero_le _)
  refine wpAny_newFunctionEnv S.cell (by intro y hy; simp at hy) (fun h₁ hns₁ hsb₁ => ?_) S.kind
  dsimp only at hns₁ hsb₁ ⊢
  generalize hDa : s2.heap.objs.size = D at *
  generalize hs3 : ({ s2 with heap := s2.heap.push { cls := .type "list", data := .seq ([] : List Value).toArray }, toks := s2.toks } : Shared) = s3 at I3
  have e3 : s3.heap = s2.heap.push { cls := .type "list", data := .seq ([] : List Value).toArray } := by rw [← hs3]
  rw [← e3] at hns₁ hsb₁ ⊢
  generalize hC : s3.heap.objs.size = C at *
  have old : ∀ b o, s3.heap.get? b = some o → h₁.get? b = some o := fun b o e => by
    have hb : b ≠ C := by rw [← hC]; exact Nat.ne_of_lt (Heap.lt_size e)
    exact hsb₁.extBut b o hb (Heap.get?_push_of_some _ e)
  have old2 : ∀ b o, s2.heap.get? b = some o → s3.heap.get? b = some o := fun b o e => by rw [e3]; exact Heap.get?_push_of_some _ e
  have f3 : ∀ b ∈ fp, FpOk X pins (upd H2 D (.lst [])) b := fun b hb => by
    obtain ⟨g0, g1⟩ := f2 b hb
    obtain ⟨o, ho, _⟩ := T.obj _ _ st2 b hb
    have : b ≠ D := by rw [← hDa]; exact Nat.ne_of_lt (Heap.lt_size ho)
    exact ⟨by rw [upd_ne this]; exact g0, g1⟩
  have fpC : ∀ b ∈ fp, b < C := fun b hb => by
    obtain ⟨o, ho, _⟩ := T.obj _ _ st2 b hb
    rw [← hC]
    exact Heap.lt_size (old2 b o ho)
  let Y : Cx := cxComp X N scope C fp s3 (upd H2 D (.lst []))
  have sub : ∀ {x : Str} {c : Addr}, Y.env.cells.lookup x = some c → X.env.cells.lookup x = some c := fun {x c} e => cloOf_sub hcells (fun _ _ z => by simp at z) e
  have YOk : Y.Ok := by
    refine ⟨I.ok.mod, S.kind, I.ok.glob, I.ok.blt, Nat.le_of_eq hC, fun x y c e1 e2 => I.ok.inj x y c (sub e1) (sub e2), fun x hx => ?_, fun x c z _ => by simp [Y, cxComp] at z, I.ok.hd, I.ok.frames, .inl rfl, fun b hb => ⟨Nat.ne_of_lt (fpC b hb), fun x c e => (f3 b hb).2.2.2.2.1 x c (sub e)⟩,
      fun b o e => I3.bs b o e, Nat.le_trans I.ok.bsz I3.sz, fun b o e hb => ?_, fun b hb z => ?_, I3.stack, I3.stkFree⟩
    · have : ∃ k0, scope.names.lookup x = some k0 ∧ (k0 = .free ∨ k0 = .cell) := by
        rcases hx with hx | hx
        · obtain ⟨k0, e0, z⟩ := relabel_kind hx
          rcases z with z | z
          · exact ⟨k0, e0, .inr z.symm⟩
          · exact ⟨k0, e0, .inl z.1⟩
        · obtain ⟨k0, e0, z⟩ := relabel_kind hx
          rcases z with z | z
          · exact ⟨k0, e0, .inl z.symm⟩
          · cases z.2
      obtain ⟨k0, e0, z⟩ := this
      rcases z with z | z
      · subst z; exact cloOf_has e0
      · subst z; exact absurd rfl (S.cell _ (PySem.mem_of_lookup e0))
    · rcases (f3 b hb).2.2.2.1 with z | z
      · exact I.ok.noex b o e z
      · exact absurd (Nat.lt_of_lt_of_le (Nat.lt_of_lt_of_le (Heap.lt_size e) I.ok.bsz) z) (Nat.lt_irrefl _)
    · rcases List.mem_cons.mp (I3.stkSub b z) with q | q
      · exact (f3 b hb).2.1 q
      · exact (f3 b hb).2.2.1 q
  have IY : ∀ tk : Nat, Inv Y [] (List.replicate k none ++ capσ σ caps) (upd H2 D (.lst [])) { s3 with heap := h₁, toks := tk } := fun tk => by
    refine ⟨YOk, rfl, I3.bare, Un.kept old, ⟨_, hns₁, fun i x v e1 e2 e3' => ?_⟩, fun x c e => ?_, I3.hok.fresh (Nat.le_of_eq hC), fun x c e => I3.freeC x c (sub e), fun p hp => absurd (show p ∈ ([] : List (Addr × Obj)) from hp) (by simp), I3.hok.kept old, ?_⟩
    · have hik : k ≤ i := by
        by_cases z : i < k
        · rw [List.getElem?_append_left (by simpa using z), List.getElem?_replicate, if_pos z] at e2
          cases e2
        · omega
      obtain ⟨j, rfl⟩ : ∃ j, i = k + j := ⟨i - k, by omega⟩
      rw [List.getElem?_append_right (by simp)] at e2
      simp only [List.length_replicate, Nat.add_sub_cancel_left] at e2
      have e1' : (N.drop k)[j]? = some x := by rw [List.getElem?_drop]; exact e1
      have e4 : ((N.drop k).map some)[j]? = some (some x) := by rw [List.getElem?_map, e1']; rfl
      rw [S.cap, List.getElem?_map] at e4
      unfold capσ at e2
      rw [List.getElem?_map] at e2
      cases hj : caps[j]? with
      | none => rw [hj] at e4; cases e4
      | some q =>
        rw [hj] at e4 e2
        have e5 : X.N[q]? = some x := Option.some.inj e4
        have e6 : (σ[q]?).join = some v := Option.some.inj e2
        have e7 : σ[q]? = some (some v) := by
          cases z : σ[q]? with
          | none => rw [z] at e6; cases e6
          | some y => rw [z] at e6; simp only [Option.join_some] at e6; rw [e6]
        obtain ⟨k1, k2⟩ := S.fre x (List.mem_of_getElem? e1')
        obtain ⟨m3, hn3, hl3⟩ := I3.loc
        obtain ⟨u, ru, lu⟩ := hl3 q x v e5 e7 (by rcases k2 with z | z; exact .inr (.inl z); exact .inr (.inr z))
        refine ⟨u, ru, .inr ⟨relabel_free k1, ?_⟩⟩
        rcases lu with ⟨z, _⟩ | ⟨_, c, hc1, hc2⟩
        · rcases k2 with z' | z' <;> (have z2 : X.env.scope.names.lookup x = some .local := z; rw [z2] at z'; cases z')
        · obtain ⟨c', hc'⟩ := cloOf_has (env := X.env) (acc := []) k1
          have := cloOf_sub hcells (fun _ _ z => by simp at z) hc'
          rw [hc1] at this; cases this
          obtain ⟨oc, h5, h6⟩ := hc2
          exact ⟨c, hc', oc, old c oc h5, h6⟩
    · obtain ⟨v, oc, h5, h6⟩ := I3.cell x c (sub e)
      exact ⟨v, oc, old c oc h5, h6⟩
    · show _ = N.length
      rw [S.len]; simp [capσ]
  have fpY : ∀ {H' : Hp}, (∀ b ∈ fp, H' b = none) → ∀ b ∈ fp, FpOk Y [] H' b := fun hn b hb => ⟨hn b hb, (YOk.exf b hb).1, YOk.exfs b hb, .inl hb, (YOk.exf b hb).2, fun p hp => absurd (show p ∈ ([] : List (Addr × Obj)) from hp) (by simp)⟩
  have hnD : D ≠ C := by rw [← hC, e3, Heap.size_push, hDa]; exact Nat.ne_of_lt (Nat.lt_succ_self _)
  have loop : ∀ s4 : Shared, Inv Y [] (List.replicate k none ++ capσ σ caps) (upd H2 D (.lst [])) s4 → tn 0 s4.heap →
      codeAny (model X.prog X.w) X.A (.compLoop (.ListComp elt [⟨tg, iter, ifs, 0⟩, ⟨tg2, iter2, ifs2, 0⟩] scope pos) 0 (.ref it) (.ref D) Y.env) (compPost (model X.prog X.w) X.A X.xe none (EP X pins σ Q) (.ref D) C) s4 := by
    intro s4 I4 st4
    refine compLoop_out (hs2 C fp s3 (upd H2 D (.lst []))) (fun n s' => ∃ i σ' H', Inv Y [] σ' H' s' ∧ tn i s'.heap ∧ (∀ b ∈ fp, H' b = none) ∧ W i n σ' H') ?_ m0 ⟨0, _, _, I4, st4, fun b hb => (f3 b hb).1, w0⟩
    rintro n s5 ⟨i, σ5, H5, I5, st5, fr5, w5⟩
    rcases turn i n σ5 H5 w5 with ⟨stop, q⟩ | ⟨go, step⟩
    · refine wpAny_mono (T.done Y rfl rfl rfl hc i [] s5 σ5 H5 (fun _ _ => False) I5 (fpY fr5) st5 stop) (fun r s6 ⟨hr, I6⟩ => ?_) fun _ _ z => z
      subst hr
      obtain ⟨m6, hn6, _⟩ := id I6.loc
      refine ⟨m6, hn6, fun h' hs' => ⟨.ref D, H5, ?_, rfl, q⟩⟩
      have un : Un (frs X.stack) fp (upd H2 D (.lst [])) H5 s3.heap h' := by
        have u := I6.base
        have nc : ∀ b o, s3.heap.get? b = some o → b ≠ C := fun b o e => by rw [← hC]; exact Nat.ne_of_lt (Heap.lt_size e)
        refine ⟨fun b o e n hb hx => (hs'.2 b (nc b o e)).trans (u.keep b o e n hb hx), fun b o e n hb hx => ?_, u.free, fun b o e hx => ?_, u.tups, u.frzs, u.tbls⟩
        · obtain ⟨sl, z⟩ := u.slot b o e n hb hx
          exact ⟨sl, (hs'.2 b (nc b o e)).trans z⟩
        · obtain ⟨o', z⟩ := u.there b o e hx
          exact ⟨o', (hs'.2 b (nc b o e)).trans z⟩
      have hok' : HOk X.prog X.w H5 h' := fun b o e => by
        have fC : H5 C = none := I6.free
        refine (I6.hok b o e).stay (fun c v hc' z => (hs'.2 c ?_).trans z) (fun _ z => z) fun _ _ z => z
        rintro rfl
        rcases hc' with z | z
        · rw [← z, fC] at e; cases e
        · rw [fC] at z; cases z
      refine I3.call' (ch := fp) (s' := { s6 with heap := h' }) I6.os un hok' I6.bare fun b hb => ?_
      obtain ⟨g0, g1, g2, g3, g4, g5⟩ := f3 b hb
      exact ⟨g3, g1, g4, g5⟩
    · refine wpAny_mono (T.item Y rfl rfl rfl hc i [] s5 σ5 H5 (fun _ _ => False) I5 (fpY fr5) st5 go) (fun r s6 ⟨u, hr, h6⟩ => ?_) fun _ _ z => z
      subst hr
      refine wpAny_mono h6 (fun _ s7 ⟨x, H7, I7, r7, y7, st7, fr7⟩ => ?_) fun _ _ z => z
      have I7' := I7.pinned (fpY fr7) (T.obj _ _ st7)
      have back : ∀ {σ8 : St} {H8 : Hp} {s8 : Shared}, Inv Y ([] ++ pinsAt fp s7.heap) σ8 H8 s8 → tn (i + 1) s8.heap ∧ ∀ b ∈ fp, H8 b = none := fun {σ8 H8 s8} I8 => by
        refine ⟨T.keep _ _ _ st7 fun b hb o e => (I8.pin (b, o) (List.mem_append_right _ (List.mem_append_right _ (mem_pinsAt hb e)))).1, fun b hb => ?_⟩
        obtain ⟨o, e, _⟩ := T.obj _ _ st7 b hb
        exact (I8.pin (b, o) (List.mem_append_right _ (List.mem_append_right _ (mem_pinsAt hb e)))).2.1
      refine wpAny_mono (hg C fp s3 _ _ s7 σ5 H7 x u _ I7' r7 (step x H7 y7)) (fun _ s8 ⟨σ8, H8, I8, q8⟩ => ?_) fun _ _ z => z
      refine wpAny_mono (ht C fp s3 _ _ s8 σ8 H8 _ I8 q8) (fun ok s9 ⟨H9, I9, q9⟩ => ?_) fun _ _ z => z
      cases ok with
      | false =>
        rw [if_neg Bool.false_ne_true] at q9 ⊢
        obtain ⟨m', hm, w9⟩ := q9
        exact ⟨m', hm, i + 1, σ8, H9, I9.unpinned, (back I9).1, (back I9).2, w9⟩
      | true =>
        rw [if_pos rfl] at q9 ⊢
        refine wpAny_mono (hem C fp s3 _ D _ s9 σ8 H9 _ I9 q9) (fun v sA hA => wpAny_mono hA (fun it2 sB hB => codeAny_mono hB fun r sC hC => ?_) fun _ _ z => z) fun _ _ z => z
        cases r with
        | error _ => exact hC
        | ok _ =>
          obtain ⟨σA, HA, IA, m', hm, wA⟩ := hC
          exact ⟨m', hm, i + 1, σA, HA, IA.unpinned, (back IA).1, (back IA).2, wA⟩
  have st3 : tn 0 h₁ := T.keep _ _ _ st2 fun b _ o e => old b o (old2 b o e)
  have I5 := IY (s2.toks + ([] : List (Str × Value)).length)
  have es : ({ s3 with heap := h₁, toks := s2.toks + ([] : List (Str × Value)).length } : Shared) = { s2 with heap := h₁, toks := s2.toks + ([] : List (Str × Value)).length } := by rw [← hs3]
  rw [es] at I5
  refine codeAny_compStart_list ?_ ?_
  · exact loop _ I5 st3
  · exact T.self _ 0 _ _ _ st3 (loop _ I5 st3)
theorem pi_listK {X : Cx} {tg l : Expr} {tl : TE} {K : PySem.W.Frag} (h : X.K = K) (hl : PE X l tl) : PI X tg l (iList K tl) := h ▸ pi_list hl
def Comp2J (J : It) (k : Nat) (caps : List Nat) (g : TG) (tc : TT) (em : TEm) (σ : St) (Q : VK) (H1 : Hp) : Prop := ∀ D, H1 D = none →
  ∃ W : Nat → Nat → St → Hp → Prop, (∃ m, W 0 m (List.replicate k none ++ capσ σ caps) (upd H1 D (.lst []))) ∧
    ∀ i m σ' H', W i m σ' H' → (J.stop i H' ∧ Q (.ref D) H') ∨ (J.go i H' ∧ ∀ x H2, J.yld i H' x H2 → g x σ' H2 fun σ3 H3 => tc σ3 H3 fun b H4 =>
        if b = true then em D σ3 H4 fun σ5 H5 => ∃ m', m' < m ∧ W (i + 1) m' σ5 H5 else ∃ m', m' < m ∧ W (i + 1) m' σ3 H4)
section
variable {σ : St} {H : Hp} {Q : VK} {g : TG} {tc : TT} {te : TE} {em : TEm} {K : PySem.W.Frag} {k : Nat} {caps : List Nat}
theorem i_comp2L (h : te σ H fun x H1 => ∃ a, x = .ref a ∧ (∃ xs, SqL K H1 a xs) ∧ Comp2J (Itl K a) k caps g tc em σ Q H1) : tComp2 (iList K te) k caps g tc em σ H Q := h
end
end L2

namespace L2
open PySem PySem.Spec PyProof.Rows
end L2

namespace L2
open PySem PySem.Spec PyProof.Rows
section
variable {σ : St} {H : Hp} {Q : VK} {g : TG} {te : TE} {tc : TT} {K : PySem.W.Frag} {k : Nat} {caps : List Nat}
theorem i_slT {p : Addr} {xs : List V} {lo hi : Option Int} (h : H p = some (.tup xs)) (hw : ¬ (HT.sIx xs.length 0 lo = 0 ∧ HT.sIx xs.length xs.length hi = xs.length)) (q : ∀ l H', H l = none → Same H H' → H' l = some (.tup (cutV xs lo hi)) → Q (.ref l) H') : rSlT K (.ref p) lo hi H Q := ⟨p, xs, rfl, SqT.of h, hw, alloc q⟩
end
def gLst (K : PySem.W.Frag) (n : Nat) (t : TGs) : TG := fun v σ H Q => ∃ a xs, v = .ref a ∧ SqL K H a xs ∧ xs.length = n ∧ t xs σ H Q
theorem i_glst {K : PySem.W.Frag} {σ : St} {H : Hp} {R : St → Hp → Prop} {n : Nat} {t : TGs} {a : Addr} {xs : List V} (h : H a = some (.lst xs)) (l : xs.length = n) (q : t xs σ H R) : gLst K n t (.ref a) σ H R := ⟨a, xs, rfl, SqL.of h, l, q⟩
theorem sorted_eq : ∀ {xs ys : List Int}, xs.Perm ys → xs.Pairwise (· ≤ ·) → ys.Pairwise (· ≤ ·) → xs = ys
  | [], ys, p, _, _ => (p.symm.eq_nil).symm
  | x :: xs, ys, p, hx, hy => by
    cases ys with
    | nil => exact absurd p.length_eq (by simp)
    | cons y ys =>
      rw [List.pairwise_cons] at hx hy
      have e : x = y := by
        have m1 : x ∈ y :: ys := p.mem_iff.mp List.mem_cons_self
        have m2 : y ∈ x :: xs := p.mem_iff.mpr List.mem_cons_self
        have h1 : y ≤ x := by
          rcases List.mem_cons.mp m1 with z | z
          · omega
          · exact hy.1 x z
        have h2 : x ≤ y := by
          rcases List.mem_cons.mp m2 with z | z
          · omega
          · exact hx.1 y z
        omega
      subst e
      rw [sorted_eq (List.perm_cons x |>.mp p) hx.2 hy.2]
end L2

namespace L2
open PySem PySem.Spec PyProof.Rows
def Pr (H : Hp) (t : Addr) (q : Nat × Nat) : Prop := H t = some (.tup [.int (q.1 : Nat), .int (q.2 : Nat)])
def PairsR (H : Hp) (p : Addr) (sw : List (Nat × Nat)) : Prop := ∃ ts : List Addr, H p = some (.lst (ts.map V.ref)) ∧ Paired (Pr H) ts sw
theorem pr_same {H H' : Hp} (s : Same H H') {ts : List Addr} {sw : List (Nat × Nat)} (h : Paired (Pr H) ts sw) : Paired (Pr H') ts sw := Paired.mapP h fun _ _ e => s _ _ e
theorem PairsR.same {H H' : Hp} {p : Addr} {sw : List (Nat × Nat)} (h : PairsR H p sw) (s : Same H H') : PairsR H' p sw := by
  obtain ⟨ts, h1, h2⟩ := h
  exact ⟨ts, s _ _ h1, pr_same s h2⟩
theorem pr_snoc {α β : Type} {F : α → β → Prop} : ∀ {l₁ : List α} {l₂ : List β} {a : α} {b : β}, Paired F l₁ l₂ → F a b → Paired F (l₁ ++ [a]) (l₂ ++ [b])
  | _, _, _, _, .nil, h => .cons h .nil
  | _, _, _, _, .cons r t, h => .cons r (pr_snoc t h)
theorem pr_app {α β : Type} {F : α → β → Prop} : ∀ {l₁ : List α} {l₂ : List β} {m₁ : List α} {m₂ : List β}, Paired F l₁ l₂ → Paired F m₁ m₂ → Paired F (l₁ ++ m₁) (l₂ ++ m₂)
  | _, _, _, _, .nil, h => h
  | _, _, _, _, .cons r t, h => .cons r (pr_app t h)
theorem pr_rev {α β : Type} {F : α → β → Prop} : ∀ {l₁ : List α} {l₂ : List β}, Paired F l₁ l₂ → Paired F l₁.reverse l₂.reverse
  | _, _, .nil => .nil
  | _, _, .cons r t => by rw [List.reverse_cons, List.reverse_cons]; exact pr_snoc (pr_rev t) r
section
variable {σ : St} {H : Hp} {Q : VK} {g : TG} {te : TE} {tc : TT} {K : PySem.W.Frag} {k : Nat} {caps : List Nat}
def PvP (H : Hp) (σ : St) (k : Nat) (caps : List Nat) (f : Nat → Nat × Nat) : Nat → List V → St → Hp → Prop := fun i ys σ' H' => (∃ own : St, own.length = k ∧ σ' = own ++ capσ σ caps) ∧ Same H H' ∧ ∃ ts : List Addr, ys = ts.map V.ref ∧ Paired (Pr H') ts ((List.range i).map f)
def YieldP (H : Hp) (D : Addr) (σ : St) (k : Nat) (caps : List Nat) (f : Nat → Nat × Nat) (ys : List V) (n i : Nat) (σ3 : St) : VK := Yield D n i ys (PvP H σ k caps f) σ3
theorem yieldP {D t : Addr} {f : Nat → Nat × Nat} {n i : Nat} {H' H5 : Hp} {σ3 : St} {ts : List Addr} (own : St) (hn : n ≤ 1000) (hi : i < n) (hD : H D = none) (s : Same H H') (h : H' D = some (.lst (ts.map V.ref))) (hp : Paired (Pr H') ts ((List.range i).map f)) (s5 : Same H' H5) (e : Pr H5 t (f i)) (l : own.length = k) (es : σ3 = own ++ capσ σ caps) : YieldP H D σ k caps f (ts.map V.ref) n i σ3 (.ref t) H5 := by
  have lt : ts.length = i := by rw [hp.length, List.length_map, List.length_range]
  have hD5 := s5 _ _ h
  have nD : ∀ {t : Addr} {q : Nat × Nat}, Pr H5 t q → t ≠ D := fun e z => by
    have e' : H5 _ = _ := e
    rw [z, hD5] at e'; cases e'
  refine yield_ok hD5 (Nat.lt_of_lt_of_le (by rw [List.length_map]; omega : _ < 1000) k1000) hi ⟨⟨own, l, es⟩, same_put (s.trans s5) hD, ts ++ [t], by simp, ?_⟩
  rw [List.range_succ, List.map_append]
  refine pr_snoc (Paired.mapP hp fun a q e => ?_) ?_
  · have e5 : Pr H5 a q := s5 _ _ e
    show upd H5 D _ a = _
    rw [upd_ne (nD e5)]; exact e5
  · show upd H5 D _ t = _
    rw [upd_ne (nD e)]; exact e
theorem comp_rp {lo : Int} {n : Nat} (f : Nat → Nat × Nat) (hs : ∀ D i own H' ts, H D = none → i < n → own.length = k → Same H H' → H' D = some (.lst (ts.map V.ref)) → Paired (Pr H') ts ((List.range i).map f) → g (.int (lo + i)) (own ++ capσ σ caps) H' fun σ3 H3 => tc σ3 H3 fun b H4 => if b = true then te σ3 H4 (YieldP H D σ k caps f (ts.map V.ref) n i σ3) else H4 D = some (.lst (ts.map V.ref)) ∧ ∃ m', m' < n - i ∧ (m' = n - (i + 1) ∧ i + 1 ≤ n ∧ PvP H σ k caps f (i + 1) (ts.map V.ref) σ3 H4))
    (hd : ∀ D H', H D = none → Same H H' → PairsR H' D ((List.range n).map f) → Q (.ref D) H') : CompJ (Itr lo n) k caps g tc te σ Q H := by
  refine comp_r fun D hD => ⟨PvP H σ k caps f, ⟨⟨List.replicate k none, by simp, rfl⟩, same_upd hD, [], rfl, .nil⟩, ?_, ?_⟩
  · rintro i ys σ' H' hi ⟨⟨own, l, rfl⟩, s, ts, rfl, hp⟩ h
    exact hs D i own H' ts hD hi l s h hp
  · rintro ys σ' H' ⟨_, s, ts, rfl, hp⟩ h
    exact hd D H' hD s ⟨ts, h, hp⟩
theorem comp_sp {lo st : Int} {n : Nat} (f : Nat → Nat × Nat) (hs : ∀ D i own H' ts, H D = none → i < n → own.length = k → Same H H' → H' D = some (.lst (ts.map V.ref)) → Paired (Pr H') ts ((List.range i).map f) → g (.int (lo + i * st)) (own ++ capσ σ caps) H' fun σ3 H3 => tc σ3 H3 fun b H4 => if b = true then te σ3 H4 (YieldP H D σ k caps f (ts.map V.ref) n i σ3) else H4 D = some (.lst (ts.map V.ref)) ∧ ∃ m', m' < n - i ∧ (m' = n - (i + 1) ∧ i + 1 ≤ n ∧ PvP H σ k caps f (i + 1) (ts.map V.ref) σ3 H4))
    (hd : ∀ D H', H D = none → Same H H' → PairsR H' D ((List.range n).map f) → Q (.ref D) H') : CompJ (Its lo st n) k caps g tc te σ Q H := by
  refine comp_s fun D hD => ⟨PvP H σ k caps f, ⟨⟨List.replicate k none, by simp, rfl⟩, same_upd hD, [], rfl, .nil⟩, ?_, ?_⟩
  · rintro i ys σ' H' hi ⟨⟨own, l, rfl⟩, s, ts, rfl, hp⟩ h
    exact hs D i own H' ts hD hi l s h hp
  · rintro ys σ' H' ⟨_, s, ts, rfl, hp⟩ h
    exact hd D H' hD s ⟨ts, h, hp⟩
end
def i1Int : List V → Hp → VK → Prop := fun xs H Q => (∃ i, xs = [.int i] ∧ Q (.int i) H) ∨ ∃ k, xs = [.bl k] ∧ Q (.int (if k then 1 else 0)) H
theorem cl_int1 {X : Cx} : CallR X (.type "int") i1Int := call_int1
theorem i_intB {H : Hp} {Q : VK} {b : Bool} (q : Q (.int (if b then 1 else 0)) H) : i1Int [.bl b] H Q := .inr ⟨b, rfl, q⟩
theorem i_intI {H : Hp} {Q : VK} {i : Int} (q : Q (.int i) H) : i1Int [.int i] H Q := .inl ⟨i, rfl, q⟩
end L2

namespace L2
open PySem PySem.Spec PyProof.Rows
theorem i_catT {K : PySem.W.Frag} {H : Hp} {Q : VK} {a b : Addr} {xs ys : List V} (h1 : H a = some (.tup xs)) (h2 : H b = some (.tup ys)) (hx : xs ≠ []) (hy : ys ≠ []) (hl : xs.length + ys.length ≤ sizeLine) (q : ∀ p H', H p = none → Same H H' → H' p = some (.tup (xs ++ ys)) → Q (.ref p) H') : rCatT K (.ref a) (.ref b) H Q :=
  ⟨a, b, xs, ys, rfl, rfl, SqT.of h1, SqT.of h2, hx, hl, fun z => absurd z hy, fun _ => alloc q⟩
theorem star_sub {o i : Expr} {pos : Pos} {es : List Expr} {env : Env} : starEach (.Subscript o i pos :: es) env = (false, eval (.Subscript o i pos) env) :: starEach es env := by rfl
end L2

namespace L2
open PySem PySem.Spec PyProof.Rows
theorem bt_any : bootBuiltins "any" = some (.builtin "any") := by decide +kernel
theorem bt_zip : bootBuiltins "zip" = some (.type "zip") := by decide +kernel
theorem any_get (bs : List Bool) : (List.range bs.length).any (fun j => (bs[j]?).getD true) = bs.any id := by
  rw [Bool.eq_iff_iff, List.any_eq_true, List.any_eq_true]
  constructor
  · rintro ⟨j, hj, h⟩
    have hj' := List.mem_range.mp hj
    rw [List.getElem?_eq_getElem hj'] at h
    exact ⟨bs[j], List.getElem_mem hj', h⟩
  · rintro ⟨b, hb, h⟩
    obtain ⟨j, hj, rfl⟩ := List.mem_iff_getElem.mp hb
    exact ⟨j, List.mem_range.mpr hj, by rw [List.getElem?_eq_getElem hj]; exact h⟩
section
variable {X : Cx}
def rAny (K : PySem.W.Frag) : List V → Hp → VK → Prop := fun xs H Q => ∃ (p : Addr) (bs : List Bool), xs = [.ref p] ∧ SqL K H p (bs.map V.bl) ∧ Q (.bl (bs.any id)) H
theorem cl_any (hc : X.calm = true) : CallR X (.builtin "any") (rAny X.K) := by
  intro pins s σ H xs us Q I r h
  obtain ⟨p, bs, rfl, hq, q⟩ := h
  obtain ⟨u, rfl, ru⟩ := vals1 r
  cases (show u = Value.ref p from ru)
  obtain ⟨its, rv, pl, hz⟩ := I.list hq
  have hlen : its.length = bs.length := by rw [← rv.length, List.length_map]
  refine call_any_walk (wpAny_pyIter_list pl.isList ?_)
  have hne : p ≠ s.heap.objs.size := Nat.ne_of_lt (by obtain ⟨o, n, e, _⟩ := pl; exact Heap.lt_size e)
  refine ⟨s.heap.objs.size, _, _, _, _, _, fun j => (bs[j]?).getD true, rfl, Walks.list (A := X.A.in1) (I.ok.hd hc) s.heap.objs.size p hne its.toArray, ⟨⟨_, Heap.get?_push_size _ rfl, rfl, rfl⟩, ?_⟩, ?_, fun h' tk hk => ?_⟩
  · obtain ⟨o, n, e, h1, h2, h3⟩ := pl
    exact ⟨o, Heap.get?_push_of_some _ e, h1, n, h3⟩
  · intro i v s2 Q2 E2 hP hQ
    have hP' : its[i]? = some v := by simpa using hP
    cases hb : bs[i]? with
    | none =>
      have : its.length ≤ i := by rw [hlen]; exact List.getElem?_eq_none_iff.mp hb
      rw [List.getElem?_eq_none_iff.mpr this] at hP'; cases hP'
    | some b =>
      obtain ⟨u', hu', ru'⟩ := rv.get (i := i) (x := .bl b) (by rw [List.getElem?_map, hb]; rfl)
      rw [hP'] at hu'; cases hu'
      cases (show v = Value.bool b from ru')
      dsimp only at hQ
      rw [hb] at hQ
      exact wpAny_truthy_bool hQ
  · refine ⟨.bl (bs.any id), H, I.kept (t' := tk) (h' := h') fun b o e => hk b o (by simp; exact Nat.ne_of_lt (Heap.lt_size e)) (Heap.get?_push_of_some _ e), ?_, q⟩
    show Value.bool _ = Value.bool _
    rw [List.size_toArray, hlen, any_get]
end
theorem i_any {K : PySem.W.Frag} {H : Hp} {Q : VK} {p : Addr} (bs : List Bool) (h : H p = some (.lst (bs.map V.bl))) (q : Q (.bl (bs.any id)) H) : rAny K [.ref p] H Q := ⟨p, bs, rfl, SqL.of h, q⟩
mutual
def D.pd : D → PyData
  | .non => .none
  | .bl b => .bool b
  | .int i => .int i
  | .str x => .str x
  | .lst ds => .list (D.pds ds)
  | .tup ds => .tuple (D.pds ds)
def D.pds : List D → List PyData
  | [] => []
  | d :: r => d.pd :: D.pds r
end
mutual
def D.ok : D → Bool
  | .str x => PyData.strOk x
  | .lst ds => D.oks ds
  | .tup ds => D.oks ds
  | _ => true
def D.oks : List D → Bool
  | [] => true
  | d :: r => d.ok && D.oks r
end
mutual
theorem D.canLay : ∀ d : D, d.ok = true → PyData.canLay0 d.pd = true
  | .non, _ => rfl
  | .bl b, _ => rfl
  | .int i, _ => rfl
  | .str x, h => h
  | .lst ds, h => D.canLays ds h
  | .tup ds, h => D.canLays ds h
theorem D.canLays : ∀ ds : List D, D.oks ds = true → PyData.canLayAll0 (D.pds ds) = true
  | [], _ => rfl
  | d :: r, h => by
    rw [D.oks, Bool.and_eq_true] at h
    rw [D.pds, PyData.canLayAll0, D.canLay d h.1, D.canLays r h.2]; rfl
end
mutual
theorem D.eqv : ∀ d : D, PyData.eqv d.pd d.pd = true
  | .non => rfl
  | .bl b => by simp [D.pd, PyData.eqv]
  | .int i => by simp [D.pd, PyData.eqv]
  | .str x => by simp [D.pd, PyData.eqv]
  | .lst ds => D.eqvs ds
  | .tup ds => D.eqvs ds
theorem D.eqvs : ∀ ds : List D, PyData.eqvAll (D.pds ds) (D.pds ds) = true
  | [] => rfl
  | d :: r => by rw [D.pds, PyData.eqvAll, D.eqv d, D.eqvs r]; rfl
end
theorem den_depth : ∀ {n : Nat} {H : Hp} {d : D} {v : V}, Den H n d v → PyData.depth d.pd ≤ n
  | 0, _, _, _, h => h.elim
  | n + 1, H, d, v, h => by
    have key : ∀ {ds : List D} {xs : List V}, Paired (Den H n) ds xs → PyData.depthAll (D.pds ds) ≤ n := by
      intro ds xs p
      induction p with
      | nil => exact Nat.zero_le _
      | cons r t ih =>
        have := den_depth r
        rw [D.pds, PyData.depthAll]
        omega
    cases d with
    | lst ds => obtain ⟨a, xs, rfl, ha, l, p⟩ := h; have := key p; rw [D.pd, PyData.depth]; omega
    | tup ds => obtain ⟨a, xs, rfl, ha, l, p⟩ := h; have := key p; rw [D.pd, PyData.depth]; omega
    | non => exact Nat.zero_le _
    | bl b => exact Nat.zero_le _
    | int i => exact Nat.zero_le _
    | str x => exact Nat.zero_le _
theorem den_reads {X : Cx} {pins : List (Addr × Obj)} {σ : St} {H : Hp} {s : Shared} (I : Inv X pins σ H s) : ∀ {n : Nat} {d : D} {v : V} {u : Value}, Den H n d v → RelV v u → ∃ as, Reads s.heap u d.pd as
  | 0, _, _, _, h, _ => h.elim
  | n + 1, d, v, u, h, r => by
    have key : ∀ {ds : List D} {xs : List V} {us : List Value}, Paired (Den H n) ds xs → Vals xs us → ∃ as, ReadsAll s.heap us (D.pds ds) as := by
      intro ds xs us p
      induction p generalizing us with
      | nil => intro rv; cases rv; exact ⟨_, .nil⟩
      | cons q t ih =>
        intro rv
        cases rv with
        | cons r1 r2 =>
          obtain ⟨a1, h1⟩ := den_reads I q r1
          obtain ⟨a2, h2⟩ := ih r2
          exact ⟨_, .cons h1 h2⟩
    cases d with
    | non => obtain rfl : v = .non := h; cases (show u = Value.none from r); exact ⟨_, .none⟩
    | bl b => obtain rfl : v = .bl b := h; cases (show u = Value.bool b from r); exact ⟨_, .bool b⟩
    | int i => obtain rfl : v = .int i := h; obtain ⟨t, rfl⟩ := r; exact ⟨_, .int i t⟩
    | str x => obtain rfl : v = .str x := h; obtain ⟨t, rfl⟩ := r; exact ⟨_, .str x t⟩
    | lst ds =>
      obtain ⟨a, xs, rfl, ha, l, p⟩ := h
      cases (show u = Value.ref a from r)
      obtain ⟨its, rv, pl, hz⟩ := I.list (SqL.of ha)
      obtain ⟨as, q⟩ := key p rv
      obtain ⟨o, ho, hc, m, hd⟩ := pl.isList
      exact ⟨_, .list ho hc hd q⟩
    | tup ds =>
      obtain ⟨a, xs, rfl, ha, l, p⟩ := h
      cases (show u = Value.ref a from r)
      obtain ⟨its, rv, pt, hz⟩ := I.tuple (SqT.of ha)
      obtain ⟨as, q⟩ := key p rv
      obtain ⟨o, ho, hc, m, hd⟩ := pt
      exact ⟨_, .tuple ho hc hd q⟩
def rNeD : R2 := fun x y H Q => ∃ (n : Nat) (d : D), n ≤ 60 ∧ Den H n d x ∧ Den H n d y ∧ d.ok = true ∧ Q (.bl false) H
theorem op_neD {X : Cx} (hu : X.A.units + 64 < cLine) : OpR X (compareOp .NotEq) rNeD := by
  intro pins s σ H x y v u Q I rx ry h
  obtain ⟨n, d, hn, d1, d2, ok, q⟩ := h
  obtain ⟨a1, r1⟩ := den_reads I d1 rx
  obtain ⟨a2, r2⟩ := den_reads I d2 ry
  have dd := den_depth d1
  have sh : SeqAt.shaped d.pd = true := by
    unfold SeqAt.shaped
    rw [d.canLay ok, decide_eq_true (by omega)]; rfl
  refine ne_dataH r1 r2 sh sh hu ?_
  rw [d.eqv]
  exact ⟨.bl false, H, I, rfl, q⟩
theorem i_neD {H : Hp} {Q : VK} {x y : V} {n : Nat} {d : D} (hn : n ≤ 60) (h1 : Den H n d x) (h2 : Den H n d y) (ok : d.ok = true) (q : Q (.bl false) H) : rNeD x y H Q := ⟨n, d, hn, h1, h2, ok, q⟩
end L2

namespace L2
open PySem PySem.Spec PyProof.Rows
def Itz (K : PySem.W.Frag) (a b : Addr) : It :=
  ⟨fun i H => ∃ xs ys x y, SqL K H a xs ∧ SqL K H b ys ∧ xs[i]? = some x ∧ ys[i]? = some y,
   fun i H x H' => ∃ t, x = .ref t ∧ H t = none ∧ ∀ xs ys, SqL K H a xs → SqL K H b ys → ∃ v w, xs[i]? = some v ∧ ys[i]? = some w ∧ H' = upd H t (.tup [v, w]),
   fun i H => ∃ xs ys, SqL K H a xs ∧ SqL K H b ys ∧ (xs.length ≤ i ∨ ys.length ≤ i)⟩
theorem turn_zip {P : Program} {w : World} {K : PySem.W.Frag} {elts : List Expr} {x1 : Nat} {pos : Pos} (a b z TI TO i1 i2 : Addr) (D : ZipApart z TI TO i1 i2 a b) :
    Turn P w K (.Tuple elts x1 pos) (Itz K a b) [z, TI, TO, i1, i2] z (fun i h => IsZip h z TI TO .none ∧ IsPair h TI (.ref i1) (.ref i2) ∧ (∃ p q, IsPair h TO p q) ∧ h.IsListIter i1 a i ∧ h.IsListIter i2 b i) where
  mem := by simp
  obj := fun i h st c hb => by
    obtain ⟨hz, hTI, ⟨p, q, hTO⟩, ⟨o1, e1, c1, d1⟩, ⟨o2, e2, c2, d2⟩⟩ := st
    have hb' : c = z ∨ c = TI ∨ c = TO ∨ c = i1 ∨ c = i2 := by simpa using hb
    rcases hb' with rfl | rfl | rfl | rfl | rfl
    · exact ⟨_, hz, fun v y => by have y' : Data.fields _ = Data.cell v := y; cases y'⟩
    · exact ⟨_, hTI, fun v y => by have y' : Data.seq _ _ = Data.cell v := y; cases y'⟩
    · exact ⟨_, hTO, fun v y => by have y' : Data.seq _ _ = Data.cell v := y; cases y'⟩
    · exact ⟨o1, e1, fun v y => by rw [d1] at y; cases y⟩
    · exact ⟨o2, e2, fun v y => by rw [d2] at y; cases y⟩
  keep := fun i h h' st k => by
    obtain ⟨hz, hTI, ⟨p, q, hTO⟩, h1, h2⟩ := st
    exact ⟨k z (by simp) _ hz, k TI (by simp) _ hTI, ⟨p, q, k TO (by simp) _ hTO⟩, h1.at fun o e => k i1 (by simp) o e, h2.at fun o e => k i2 (by simp) o e⟩
  item := by
    intro X hP hw hK hc i pins s σ H E I hf st hg
    subst hP hw hK
    obtain ⟨hz, hTI, ⟨p, q, hTO⟩, hi1, hi2⟩ := st
    obtain ⟨xs, ys, x, y, hq1, hq2, hx, hy⟩ := hg
    obtain ⟨t1, rv1, p1, hz1⟩ := I.list hq1
    obtain ⟨t2, rv2, p2, hz2⟩ := I.list hq2
    obtain ⟨u, hu, ru⟩ := rv1.get hx
    obtain ⟨v, hv, rv⟩ := rv2.get hy
    refine wpAny_pyNext_zip_item D hz hTI hTO hi1 hi2 p1.isList p2.isList (x := u) (y := v) (by simpa using hu) (by simpa using hv) fun h1 az aTO a1 a2 aN asz ak => ?_
    refine ⟨_, rfl, wpAny_letOwnedTupleGo_zip az fun h2 hz2 hs2 => ?_⟩
    have hs2' : Heap.SameBut z h1 h2 := hs2
    have hzl : z < s.heap.objs.size := Heap.lt_size hz
    have tl : h2.get? s.heap.objs.size = some { cls := .type "tuple", data := .seq #[u, v] } := (hs2'.2 _ (Nat.ne_of_gt hzl)).trans aN
    have fr : H s.heap.objs.size = none := I.fresh
    have I1 : Inv X pins σ (upd H s.heap.objs.size (.tup [x, y])) { s with heap := s.heap.push { cls := .type "tuple", data := .seq #[u, v] }, toks := s.toks } :=
      I.laid (t' := s.toks) (o := .tup [x, y]) (fun b o z => Heap.get?_push_of_some _ z) (Nat.le_refl _) ⟨by show 2 ≤ sizeLine; decide, [u, v], .cons ru (.cons rv .nil), _, Heap.get?_push_size _ rfl, rfl, _, rfl⟩
    have ex : ∀ c ∈ [z, TI, TO, i1, i2], ∃ o, s.heap.get? c = some o := fun c hb => by
      have hb' : c = z ∨ c = TI ∨ c = TO ∨ c = i1 ∨ c = i2 := by simpa using hb
      rcases hb' with e | e | e | e | e
      · rw [e]; exact ⟨_, hz⟩
      · rw [e]; exact ⟨_, hTI⟩
      · rw [e]; exact ⟨_, hTO⟩
      · rw [e]; obtain ⟨o, e1, _⟩ := hi1; exact ⟨o, e1⟩
      · rw [e]; obtain ⟨o, e1, _⟩ := hi2; exact ⟨o, e1⟩
    have fe : ∀ c ∈ [z, TI, TO, i1, i2], c ≠ s.heap.objs.size := fun c hb e => by
      obtain ⟨o, ho⟩ := ex c hb
      have := Heap.lt_size ho
      rw [e] at this
      exact Nat.lt_irrefl _ this
    have hf1 : ∀ c ∈ [z, TI, TO, i1, i2], FpOk X pins (upd H s.heap.objs.size (.tup [x, y])) c := fun c hb => by
      obtain ⟨g0, g1⟩ := hf c hb
      exact ⟨by rw [upd_ne (fe c hb)]; exact g0, g1⟩
    have I2 : Inv X pins σ (upd H s.heap.objs.size (.tup [x, y])) { s with heap := h2, toks := s.toks } := by
      refine Inv.turnedL (s := { s with heap := s.heap.push { cls := .type "tuple", data := .seq #[u, v] }, toks := s.toks }) (h' := h2) (ch := [z, TI, TO, i1, i2]) (t' := s.toks) I1 (fun c o hb e => ?_) hf1
      have n1 : c ≠ z := fun y => hb (by simp [y])
      have n2 : c ≠ TO := fun y => hb (by simp [y])
      have n3 : c ≠ i1 := fun y => hb (by simp [y])
      have n4 : c ≠ i2 := fun y => hb (by simp [y])
      have e' : (s.heap.push { cls := .type "tuple", data := .seq #[u, v] }).get? c = some o := e
      by_cases hbs : c = s.heap.objs.size
      · subst hbs
        rw [Heap.get?_push_size _ rfl] at e'
        cases e'
        exact tl
      · have zs : s.heap.get? c = some o := by
          rw [Heap.get?_push_ne] at e'
          · exact e'
          · exact hbs
        exact (hs2'.2 c n1).trans (ak c o n1 n2 n3 n4 zs)
    refine ⟨.ref s.heap.objs.size, _, I2, rfl, ⟨_, rfl, fr, fun xs' ys' hy1 hy2 => ⟨x, y, by rw [I.list_inj hy1 hq1]; exact hx, by rw [I.list_inj hy2 hq2]; exact hy, rfl⟩⟩,
      ⟨hz2, hs2'.extBut _ _ D.TIz (ak _ _ D.TIz D.TITO D.TIi1 D.TIi2 hTI), ⟨_, _, hs2'.extBut _ _ D.TOz aTO⟩, a1.extBut hs2'.extBut D.i1z, a2.extBut hs2'.extBut D.i2z⟩, fun c hb => by rw [upd_ne (fe c hb)]; exact (hf c hb).1⟩
  done := by
    intro X hP hw hK hc i pins s σ H E I hf st hg
    subst hP hw hK
    obtain ⟨hz, hTI, ⟨p, q, hTO⟩, hi1, hi2⟩ := st
    obtain ⟨xs, ys, hq1, hq2, hx⟩ := hg
    obtain ⟨t1, rv1, p1, hz1⟩ := I.list hq1
    obtain ⟨t2, rv2, p2, hz2⟩ := I.list hq2
    have l1 := rv1.length
    have l2 := rv2.length
    refine wpAny_pyNext_zip_end (I.ok.hd hc) D hz hTI hTO hi1 hi2 p1.isList p2.isList ?_ fun h1 eb => ⟨rfl, ?_⟩
    · rcases hx with h | h
      · exact .inl (by simp; omega)
      · exact .inr (by simp; omega)
    · exact I.turnedL (ch := [z, TI, TO, i1, i2]) (t' := s.toks) (fun c o hb e => eb c o (fun y => hb (by simp [y])) (fun y => hb (by simp [y])) (fun y => hb (by simp [y])) (fun y => hb (by simp [y])) e) hf
  self := fun _ _ _ _ _ st h => wpAny_pyIter_zip st.1 h
section
variable {X : Cx}
theorem zip_apart {n l1 l2 : Addr} (h1 : l1 < n) (h2 : l2 < n) : ZipApart (n + 4) (n + 2) (n + 3) n (n + 1) l1 l2 := by
  have key : ∀ (n l1 l2 : Nat), l1 < n → l2 < n → (n + 2 ≠ n + 4 ∧ n + 3 ≠ n + 4 ∧ n ≠ n + 4 ∧ n + 1 ≠ n + 4 ∧ n + 2 ≠ n + 3 ∧ n + 2 ≠ n ∧ n + 2 ≠ n + 1 ∧ n + 3 ≠ n ∧ n + 3 ≠ n + 1 ∧ n ≠ n + 1) ∧ (l1 ≠ n + 4 ∧ l1 ≠ n + 3 ∧ l1 ≠ n ∧ l1 ≠ n + 1) ∧ l2 ≠ n + 4 ∧ l2 ≠ n + 3 ∧ l2 ≠ n ∧ l2 ≠ n + 1 := by omega
  obtain ⟨⟨a1, a2, a3, a4, a5, a6, a7, a8, a9, a10⟩, ⟨b1, b2, b3, b4⟩, c1, c2, c3, c4⟩ := key n l1 l2 h1 h2
  exact ⟨a1, a2, a3, a4, a5, a6, a7, a8, a9, a10, b1, b2, b3, b4, c1, c2, c3, c4⟩
def iZip (K : PySem.W.Frag) (ta : TA) : TI := fun σ H R => ta σ H fun vs H1 => ∃ a b, vs = [.ref a, .ref b] ∧ (∃ xs, SqL K H1 a xs) ∧ (∃ ys, SqL K H1 b ys) ∧ R (Itz K a b) H1
theorem pi_zip {e1 e2 : Expr} {ta : TA} {p pos : Pos} {elts : List Expr} {x1 : Nat} {tpos : Pos} (hg : Gl X "zip") (hm : X.mg "zip" = none) (ha : PA X [e1, e2] ta) (hs : starEach [e1, e2] X.env = (false, eval e1 X.env) :: starEach [e2] X.env := by rfl) (hs2 : (backTo pos (starEach [e2] X.env)).any (·.1) = false := by rfl) : PI X (.Tuple elts x1 tpos) (.Call (.Name "zip" p) [e1, e2] [] pos) (iZip X.K ta) := by
  intro pins s σ H R I h
  refine Call_ (ld_blt I hg hm bt_zip (PyProof.Rows.callWith_type1 (thn (ha pos pins s σ H _ I h) fun us s1 ⟨vs, H1, I1, r1, q1⟩ => ?_) hs hs2))
  obtain ⟨a, b, e, ⟨xs, hq1⟩, ⟨ys, hq2⟩, q⟩ := q1
  subst e
  obtain ⟨u, v, rfl, ru, rv⟩ := vals2 r1
  cases (show u = Value.ref a from ru)
  cases (show v = Value.ref b from rv)
  obtain ⟨t1, rv1, p1, hz1⟩ := I1.list hq1
  obtain ⟨t2, rv2, p2, hz2⟩ := I1.list hq2
  have al : a < s1.heap.objs.size := by obtain ⟨o, n, e, _⟩ := p1; exact Heap.lt_size e
  have bl : b < s1.heap.objs.size := by obtain ⟨o, n, e, _⟩ := p2; exact Heap.lt_size e
  refine call_zip_2 p1.isList p2.isList fun h1 hz hTI hTO hi1 hi2 hsz hk => ?_
  refine wpAny_pyIter_zip hz ?_
  have I2 : Inv X pins σ H1 { s1 with heap := h1 } := I1.kept (t' := s1.toks) fun b o z => hk b o z
  refine ⟨s1.heap.objs.size + 4, [s1.heap.objs.size + 4, s1.heap.objs.size + 2, s1.heap.objs.size + 3, s1.heap.objs.size, s1.heap.objs.size + 1], _, _, H1, rfl, I2, turn_zip a b _ _ _ _ _ (zip_apart al bl), ⟨hz, hTI, ⟨_, _, hTO⟩, hi1, hi2⟩, fun c hb => ?_, q⟩
  have hb' : s1.heap.objs.size ≤ c := by
    have hb' : c = s1.heap.objs.size + 4 ∨ c = s1.heap.objs.size + 2 ∨ c = s1.heap.objs.size + 3 ∨ c = s1.heap.objs.size ∨ c = s1.heap.objs.size + 1 := by simpa using hb
    rcases hb' with e | e | e | e | e <;> rw [e]
    · exact Nat.le_add_right _ _
    · exact Nat.le_add_right _ _
    · exact Nat.le_add_right _ _
    · exact Nat.le_refl _
    · exact Nat.le_add_right _ _
  exact I1.fpOk hb' (I1.hok.fresh hb')
end
end L2

namespace L2
open PySem PySem.Spec PyProof.Rows
structure Stab {α : Type} (R : Hp → V → α → Prop) : Prop where
  mono : ∀ {H H' : Hp} {v : V} {a : α}, Same H H' → R H v a → R H' v a
  rf : ∀ {H : Hp} {v : V} {a : α}, R H v a → ∃ p, v = .ref p
  wr : ∀ {H : Hp} {D : Addr} {ys zs : List V} {as : List α} {v : V} {a : α}, Paired (R H) ys as → H D = some (.lst ys) → R H v a → R (upd H D (.lst zs)) v a
section
variable {α : Type} {R : Hp → V → α → Prop} {σ : St} {H : Hp} {Q : VK} {g : TG} {tc : TT} {te : TE} {K : PySem.W.Frag} {k : Nat} {caps : List Nat}
def PvR (R : Hp → V → α → Prop) (G : Nat → α → Prop) (H : Hp) (σ : St) (k : Nat) (caps : List Nat) : Nat → List V → St → Hp → Prop := fun i ys σ' H' => (∃ own : St, own.length = k ∧ σ' = own ++ capσ σ caps) ∧ Same H H' ∧ ∃ as : List α, as.length = i ∧ Paired (R H') ys as ∧ ∀ j a, as[j]? = some a → G j a
def YieldR (R : Hp → V → α → Prop) (G : Nat → α → Prop) (H : Hp) (D : Addr) (σ : St) (k : Nat) (caps : List Nat) (ys : List V) (n i : Nat) (σ3 : St) : VK := Yield D n i ys (PvR R G H σ k caps) σ3
theorem yieldR (S : Stab R) {G : Nat → α → Prop} {D : Addr} {n i : Nat} {y : V} {a : α} {H' H5 : Hp} {σ3 : St} {ys : List V} {as : List α} (own : St) (hn : n ≤ 1000) (hi : i < n) (hD : H D = none) (s : Same H H') (h : H' D = some (.lst ys)) (hp : Paired (R H') ys as) (la : as.length = i) (hG : ∀ j a, as[j]? = some a → G j a)
    (s5 : Same H' H5) (e : R H5 y a) (eg : G i a) (l : own.length = k) (es : σ3 = own ++ capσ σ caps) : YieldR R G H D σ k caps ys n i σ3 y H5 := by
  have hD5 := s5 _ _ h
  have p5 : Paired (R H5) ys as := Paired.mapP hp fun _ _ q => S.mono s5 q
  refine yield_ok hD5 (Nat.lt_of_lt_of_le (by rw [hp.length]; omega : _ < 1000) k1000) hi ⟨⟨own, l, es⟩, same_put (s.trans s5) hD, as ++ [a], by rw [List.length_append, la]; rfl, ?_, fun j b hj => ?_⟩
  · exact pr_snoc (Paired.mapP p5 fun _ _ q => S.wr p5 hD5 q) (S.wr p5 hD5 e)
  · by_cases c : j < as.length
    · rw [List.getElem?_append_left c] at hj; exact hG j b hj
    · rw [List.getElem?_append_right (by omega)] at hj
      have : j - as.length = 0 := by
        by_cases z : j - as.length = 0
        · exact z
        · rw [List.getElem?_eq_none (by show 1 ≤ _; omega)] at hj; cases hj
      rw [this] at hj
      have ej : j = i := by omega
      have eb : a = b := Option.some.inj hj
      rw [ej, ← eb]; exact eg
theorem comp_rR {lo : Int} {n : Nat} (G : Nat → α → Prop) (hs : ∀ D i own H' ys as, H D = none → i < n → own.length = k → Same H H' → H' D = some (.lst ys) → Paired (R H') ys as → as.length = i → (∀ j a, as[j]? = some a → G j a) → g (.int (lo + i)) (own ++ capσ σ caps) H' fun σ3 H3 => tc σ3 H3 fun b H4 => if b = true then te σ3 H4 (YieldR R G H D σ k caps ys n i σ3) else H4 D = some (.lst ys) ∧ ∃ m', m' < n - i ∧ (m' = n - (i + 1) ∧ i + 1 ≤ n ∧ PvR R G H σ k caps (i + 1) ys σ3 H4))
    (hd : ∀ D H' ys as, H D = none → Same H H' → H' D = some (.lst ys) → Paired (R H') ys as → as.length = n → (∀ j a, as[j]? = some a → G j a) → Q (.ref D) H') : CompJ (Itr lo n) k caps g tc te σ Q H := by
  refine comp_r fun D hD => ⟨PvR R G H σ k caps, ⟨⟨List.replicate k none, by simp, rfl⟩, same_upd hD, [], rfl, .nil, fun j a e => by simp at e⟩, ?_, ?_⟩
  · rintro i ys σ' H' hi ⟨⟨own, l, rfl⟩, s, as, la, hp, hG⟩ h
    exact hs D i own H' ys as hD hi l s h hp la hG
  · rintro ys σ' H' ⟨_, s, as, la, hp, hG⟩ h
    exact hd D H' ys as hD s h hp la hG
theorem comp_lR {a : Addr} {xs : List V} (G : Nat → α → Prop) (ha : H a = some (.lst xs)) (hs : ∀ D i x own H' ys as, H D = none → xs[i]? = some x → own.length = k → Same H H' → H' D = some (.lst ys) → Paired (R H') ys as → as.length = i → (∀ j a, as[j]? = some a → G j a) → g x (own ++ capσ σ caps) H' fun σ3 H3 => tc σ3 H3 fun b H4 => if b = true then te σ3 H4 (YieldR R G H D σ k caps ys xs.length i σ3) else H4 D = some (.lst ys) ∧ ∃ m', m' < xs.length - i ∧ (m' = xs.length - (i + 1) ∧ i + 1 ≤ xs.length ∧ PvR R G H σ k caps (i + 1) ys σ3 H4))
    (hd : ∀ D H' ys as, H D = none → Same H H' → H' D = some (.lst ys) → Paired (R H') ys as → as.length = xs.length → (∀ j a, as[j]? = some a → G j a) → Q (.ref D) H') : CompJ (Itl K a) k caps g tc te σ Q H := by
  refine comp_l (xs := xs) fun D hD => ⟨PvR R G H σ k caps, ⟨⟨List.replicate k none, by simp, rfl⟩, same_upd hD, [], rfl, .nil, fun j a e => by simp at e⟩, ?_, ?_, ?_⟩
  · rintro i ys σ' H' hi ⟨_, s, _⟩
    exact SqL.of (s _ _ ha)
  · rintro i x ys σ' H' hi ⟨⟨own, l, rfl⟩, s, as, la, hp, hG⟩ h
    exact hs D i x own H' ys as hD hi l s h hp la hG
  · rintro ys σ' H' ⟨_, s, as, la, hp, hG⟩ h
    exact hd D H' ys as hD s h hp la hG
end
theorem as_map {α : Type} {f : Nat → α} {as : List α} {n : Nat} (l : as.length = n) (h : ∀ j a, as[j]? = some a → a = f j) : as = (List.range n).map f := by
  refine List.ext_getElem? fun i => ?_
  rw [List.getElem?_map]
  by_cases c : i < n
  · rw [List.getElem?_range c, List.getElem?_eq_getElem (by omega)]
    exact congrArg some (h i _ (List.getElem?_eq_getElem (by omega)))
  · rw [List.getElem?_eq_none (by omega), List.getElem?_eq_none (by rw [List.length_range]; omega)]; rfl
section
variable {σ : St} {H : Hp} {D : Ends} {g : TG} {tb : TS} {aa : TA} {K : PySem.W.Frag}
theorem i_forZ (h : aa σ H fun vs H1 => ∃ a b, vs = [.ref a, .ref b] ∧ (∃ xs, SqL K H1 a xs) ∧ (∃ ys, SqL K H1 b ys) ∧ ForJ (Itz K a b) g tb D σ H1) : tFor (iZip K aa) g tb D σ H := h
theorem for_z {a b : Addr} {xs ys : List V} (le : ys.length ≤ xs.length) (Pv : Nat → St → Hp → Prop) (h0 : Pv 0 σ H) (hl : ∀ i σ H, i ≤ ys.length → Pv i σ H → SqL K H a xs ∧ SqL K H b ys)
    (hs : ∀ i x y σ H t H', xs[i]? = some x → ys[i]? = some y → Pv i σ H → H t = none → Same H H' → H' t = some (.tup [x, y]) → g (.ref t) σ H' fun σ2 H2 => tb { D with nx := Pv (i + 1), ct := Pv (i + 1), bk := D.nx } σ2 H2) (hd : ∀ σ H, Pv ys.length σ H → D.nx σ H) : ForJ (Itz K a b) g tb D σ H := by
  refine ⟨fun i m σ H => m = ys.length - i ∧ i ≤ ys.length ∧ Pv i σ H, ⟨ys.length, by simp, Nat.zero_le _, h0⟩, ?_⟩
  rintro i m σ H ⟨rfl, hi, p⟩
  obtain ⟨q1, q2⟩ := hl i σ H hi p
  by_cases hlt : i < ys.length
  · refine .inr ⟨⟨xs, ys, xs[i], ys[i], q1, q2, by simp, by simp⟩, Pv (i + 1), fun σ' H' p' => ⟨ys.length - (i + 1), by omega, rfl, hlt, p'⟩, fun x H' y => ?_⟩
    obtain ⟨t, rfl, ht, y⟩ := y
    obtain ⟨v, w, hv, hw, rfl⟩ := y xs ys q1 q2
    exact hs i v w σ H t _ hv hw p ht (same_upd ht) upd_same
  · have e : i = ys.length := by omega
    subst e
    exact .inl ⟨⟨xs, ys, q1, q2, .inr (Nat.le_refl _)⟩, hd σ H p⟩
end
section
variable {σ : St} {H : Hp} {Q : VK} {K K2 : PySem.W.Frag} {caps : List Nat} {te : TE}
theorem flat_new {a : Addr} {xs : List V} (ts : Nat → List V) (ha : H a = some (.lst xs)) (lx : xs.length ≤ 30) (lt : ∀ i, i < xs.length → (ts i).length ≤ 30)
    (hin : ∀ i x o1 H' (R : VK), xs[i]? = some x → Same H H' → (∀ p H1, H' p = none → Same H' H1 → H1 p = some (.lst (ts i)) → R (.ref p) H1) → te ([some x, o1] ++ capσ σ caps) H' R)
    (q : ∀ D H', H D = none → Same H H' → H' D = some (.lst ((List.range xs.length).flatMap ts)) → Q (.ref D) H') : Comp2J (Itl K a) 2 caps (gName 0) tYes (tEmit (iList K2 te) (gName 1) tYes (tVar 1)) σ Q H := by
  intro D hD
  have fl : ∀ i, i ≤ xs.length → ((List.range i).flatMap ts).length ≤ 30 * i := fun i => by
    induction i with
    | zero => intro _; simp
    | succ i ih =>
      intro hi
      rw [List.range_succ, List.flatMap_append, List.length_append]
      have := ih (by omega)
      have := lt i (by omega)
      have e1 : ([i].flatMap ts).length = (ts i).length := by rw [List.flatMap_cons, List.flatMap_nil, List.append_nil]
      rw [e1]; omega
  refine ⟨fun i m σ' H' => m = xs.length - i ∧ i ≤ xs.length ∧ (∃ o0 o1, σ' = [o0, o1] ++ capσ σ caps) ∧ Same H H' ∧ H' D = some (.lst ((List.range i).flatMap ts)), ⟨xs.length, by simp, Nat.zero_le _, ⟨none, none, rfl⟩, same_upd hD, upd_same⟩, ?_⟩
  rintro i m σ' H' ⟨rfl, hi, ⟨o0, o1, rfl⟩, s, hd⟩
  by_cases hlt : i < xs.length
  · obtain ⟨x, hx⟩ : ∃ x, xs[i]? = some x := ⟨xs[i], List.getElem?_eq_getElem hlt⟩
    refine .inr ⟨⟨_, x, SqL.of (s _ _ ha), hx⟩, fun x' H2 y => ?_⟩
    obtain ⟨e, y⟩ := y
    subst e
    have ex : x' = x := by
      have := y _ (SqL.of (s _ _ ha))
      rw [hx] at this
      exact (Option.some.inj this).symm
    subst ex
    refine i_gname (i_yes (iteT ?_))
    refine hin i x' o1 H2 _ hx s fun p H1 hp s1 h1 => ?_
    have hd1 := s1 _ _ hd
    have npD : p ≠ D := fun z => by rw [z, hd] at hp; cases hp
    refine ⟨p, rfl, ⟨_, SqL.of h1⟩, fun j m2 ys σ2 H3 => m2 = (ts i).length - j ∧ j ≤ (ts i).length ∧ (∃ o1, σ2 = [some x', o1] ++ capσ σ caps) ∧ Same H H3 ∧ H3 p = some (.lst (ts i)) ∧ ys = (List.range i).flatMap ts ++ (ts i).take j, ⟨_, (ts i).length, hd1, by simp, Nat.zero_le _, ⟨o1, rfl⟩, s.trans s1, h1, by simp⟩, ?_⟩
    rintro j m2 ys σ2 H3 ⟨rfl, hj, ⟨o2, rfl⟩, s3, h3p, rfl⟩ h3
    have fi := fl i hi
    have li := lt i hlt
    by_cases hj2 : j < (ts i).length
    · have hxj : (ts i)[j]? = some ((ts i)[j]'hj2) := List.getElem?_eq_getElem hj2
      refine .inr ⟨⟨_, _, SqL.of h3p, hxj⟩, fun x H4 y => ?_⟩
      obtain ⟨e, y⟩ := y
      subst e
      have ex := y _ (SqL.of h3p)
      rw [hxj] at ex
      obtain rfl := (Option.some.inj ex)
      refine i_gname (i_yes (iteT ?_))
      refine ⟨_, rfl, h3, ?_, (ts i).length - (j + 1), by omega, rfl, by omega, ⟨_, rfl⟩, same_put s3 hD, by rw [upd_ne npD]; exact h3p, ?_⟩
      · rw [List.length_append, List.length_take]
        refine Nat.lt_of_lt_of_le (m := 1000) ?_ k1000
        omega
      · rw [List.append_assoc]
        congr 1
        rw [List.take_succ, hxj]; rfl
    · have ej : j = (ts i).length := by omega
      subst ej
      refine .inl ⟨⟨_, SqL.of h3p, Nat.le_refl _⟩, xs.length - (i + 1), by omega, rfl, hlt, ⟨_, _, rfl⟩, s3, ?_⟩
      rw [h3, List.take_length, List.range_succ, List.flatMap_append]
      simp
  · have e : i = xs.length := by omega
    subst e
    exact .inl ⟨⟨_, SqL.of (s _ _ ha), Nat.le_refl _⟩, q D H' hD s hd⟩
end
end L2

namespace L2
open PySem PySem.Spec PyProof.Rows
section
variable {prog : Program} {w : World} {A : Around} {R : Result → Shared → Prop} {E : Value → Shared → Prop} {s : Shared}
end
section
variable {X : Cx}
end
end L2

namespace L2
open PySem PySem.Spec PyProof.Rows
theorem bt_reversed : bootBuiltins "reversed" = some (.type "reversed") := by decide +kernel
def Itv (K : PySem.W.Frag) (a : Addr) (xs : List V) : It := ⟨fun i H => SqL K H a xs ∧ i < xs.length, fun i H x H' => H' = H ∧ xs.reverse[i]? = some x, fun i H => i = xs.length⟩
theorem turn_rev {P : Program} {w : World} {K : PySem.W.Frag} {tg : Expr} (a it : Addr) (xs : List V) : Turn P w K tg (Itv K a xs) [it] it (fun i h => h.IsRevIter it a ((xs.length : Int) - 1 - (i : Int))) where
  mem := by simp
  obj := fun i h st b hb => by
    have e : b = it := by simpa using hb
    subst e
    obtain ⟨o, e, c, d⟩ := st
    exact ⟨o, e, fun v z => by rw [d] at z; cases z⟩
  keep := fun i h h' st k => st.at fun o e => k it (by simp) o e
  item := by
    intro X hP hw hK hc i pins s σ H E I hf st hg
    subst hP hw hK
    obtain ⟨hq, hi⟩ := hg
    obtain ⟨its, rv, p, hz⟩ := I.list hq
    have hl := rv.length
    have hx : xs[xs.length - 1 - i]? = some (xs[xs.length - 1 - i]'(by omega)) := List.getElem?_eq_getElem (by omega)
    obtain ⟨u, hu, ru⟩ := rv.get hx
    obtain ⟨f0, f1, f2, f3, f4, f5⟩ := hf it (by simp)
    have e : (xs.length : Int) - 1 - (i : Int) = ((xs.length - 1 - i : Nat) : Int) := by omega
    have st1 : s.heap.IsRevIter it a ((xs.length - 1 - i : Nat) : Int) := by rw [← e]; exact st
    refine wpAny_pyNext_rev_item st1 p.isList (x := u) (by simpa using hu) fun h' st' sb => ?_
    have I1 : Inv X pins σ H { s with heap := h' } := I.turned (t' := s.toks) (fun b o hb e => (sb.2 b hb).trans e) f0 f1 f3 f4 f5
    have st2 : h'.IsRevIter it a ((xs.length : Int) - 1 - ((i + 1 : Nat) : Int)) := by rw [show (xs.length : Int) - 1 - ((i + 1 : Nat) : Int) = ((xs.length - 1 - i : Nat) : Int) - 1 from by omega]; exact st'
    obtain ⟨o, e, c, d⟩ := id st'
    exact ⟨u, rfl, go_of (s := { s with heap := h' }) e c d (by decide) ⟨_, H, I1, ru, ⟨rfl, by rw [List.getElem?_reverse hi]; exact hx⟩, st2, fun b hb => (hf b hb).1⟩⟩
  done := by
    intro X hP hw hK hc i pins s σ H E I hf st hg
    subst hP hw hK
    have hi : i = xs.length := hg
    obtain ⟨f0, f1, f2, f3, f4, f5⟩ := hf it (by simp)
    have st1 : s.heap.IsRevIter it a (-1) := by rw [show (-1 : Int) = (xs.length : Int) - 1 - (i : Int) from by omega]; exact st
    exact wpAny_pyNext_rev_end (I.ok.hd hc) st1 fun h' eb => ⟨rfl, I.turned (t' := s.toks) (fun b o hb e => eb b o hb e) f0 f1 f3 f4 f5⟩
  self := fun _ _ _ _ _ st h => wpAny_pyIter_revIter st h
section
variable {X : Cx}
def iRev (K : PySem.W.Frag) (ta : TA) : TI := fun σ H R => ta σ H fun vs H1 => ∃ a xs, vs = [.ref a] ∧ SqL K H1 a xs ∧ R (Itv K a xs) H1
theorem pi_rev {e1 tg : Expr} {ta : TA} {p pos : Pos} (hg : Gl X "reversed") (hm : X.mg "reversed" = none) (ha : PA X [e1] ta) (hs : starEach [e1] X.env = [(false, eval e1 X.env)] := by rfl) : PI X tg (.Call (.Name "reversed" p) [e1] [] pos) (iRev X.K ta) := by
  intro pins s σ H R I h
  refine Call_ (ld_blt I hg hm bt_reversed (PyProof.Rows.callWith_type1 (thn (ha pos pins s σ H _ I h) fun us s1 ⟨vs, H1, I1, r1, q1⟩ => ?_) hs rfl))
  obtain ⟨a, xs, e, hq, q⟩ := q1
  subst e
  obtain ⟨u, rfl, ru⟩ := vals1 r1
  cases (show u = Value.ref a from ru)
  obtain ⟨its, rv, pl, hz⟩ := I1.list hq
  have hl := rv.length
  refine call_reversed_list pl.isList ?_
  have st : (s1.heap.push (revObj a ((its.toArray.size : Int) - 1))).IsRevIter s1.heap.objs.size a ((xs.length : Int) - 1 - ((0 : Nat) : Int)) := ⟨_, Heap.get?_push_size _ rfl, rfl, by rw [List.size_toArray, ← hl, show (xs.length : Int) - 1 - ((0 : Nat) : Int) = (xs.length : Int) - 1 from by omega]; rfl⟩
  refine wpAny_pyIter_revIter (s := { s1 with heap := s1.heap.push (revObj a ((its.toArray.size : Int) - 1)) }) st ?_
  refine ⟨s1.heap.objs.size, [s1.heap.objs.size], _, _, H1, rfl, I1.kept (t' := s1.toks) fun b o e => Heap.get?_push_of_some _ e, turn_rev a _ xs, st, fun b hb => ?_, q⟩
  have e : b = s1.heap.objs.size := by simpa using hb
  subst e
  exact I1.fpOk (Nat.le_refl _) (I1.hok.fresh (Nat.le_refl _))
end
section
variable {α : Type} {R : Hp → V → α → Prop} {σ : St} {H : Hp} {Q : VK} {g : TG} {tc : TT} {te : TE} {ta : TA} {K : PySem.W.Frag} {k : Nat} {caps : List Nat}
theorem i_compV (h : ta σ H fun vs H1 => ∃ a xs, vs = [.ref a] ∧ SqL K H1 a xs ∧ CompJ (Itv K a xs) k caps g tc te σ Q H1) : tComp (iRev K ta) k caps g tc te σ H Q := h
theorem comp_vR {a : Addr} {xs : List V} (G : Nat → α → Prop) (ha : H a = some (.lst xs)) (hs : ∀ D i x own H' ys as, H D = none → i < xs.length → xs.reverse[i]? = some x → own.length = k → Same H H' → H' D = some (.lst ys) → Paired (R H') ys as → as.length = i → (∀ j a, as[j]? = some a → G j a) → g x (own ++ capσ σ caps) H' fun σ3 H3 => tc σ3 H3 fun b H4 => if b = true then te σ3 H4 (YieldR R G H D σ k caps ys xs.length i σ3) else H4 D = some (.lst ys) ∧ ∃ m', m' < xs.length - i ∧ (m' = xs.length - (i + 1) ∧ i + 1 ≤ xs.length ∧ PvR R G H σ k caps (i + 1) ys σ3 H4))
    (hd : ∀ D H' ys as, H D = none → Same H H' → H' D = some (.lst ys) → Paired (R H') ys as → as.length = xs.length → (∀ j a, as[j]? = some a → G j a) → Q (.ref D) H') : CompJ (Itv K a xs) k caps g tc te σ Q H := by
  intro D hD
  refine ⟨fun i m ys σ' H' => m = xs.length - i ∧ i ≤ xs.length ∧ PvR R G H σ k caps i ys σ' H', ⟨xs.length, by simp, Nat.zero_le _, ⟨List.replicate k none, by simp, rfl⟩, same_upd hD, [], rfl, .nil, fun j a e => by simp at e⟩, ?_⟩
  rintro i m ys σ' H' ⟨rfl, hi, ⟨own, l, rfl⟩, s, as, la, hp, hG⟩ h
  by_cases hlt : i < xs.length
  · refine .inr ⟨⟨SqL.of (s _ _ ha), hlt⟩, fun x H2 y => ?_⟩
    obtain ⟨e, y⟩ := y
    subst e
    exact hs D i x own H2 ys as hD hlt y l s h hp la hG
  · have e : i = xs.length := by omega
    exact .inl ⟨e, hd D H' ys as hD s h hp (la.trans e) hG⟩
end
end L2

end
set_option maxHeartbeats 4000000
namespace T11
open PySem L2
def top (i : Nat) : Stmt := PySem.Challenge.pw_longways_k11_figures_turned_about.main.body.getD i (.Pass ⟨0, 0, 0, 0⟩)
abbrev s_look_spots : Stmt := top 10
abbrev s_is_span : Stmt := top 11
abbrev s_numbers_fit : Stmt := top 15
abbrev s_look_call : Stmt := top 16
abbrev s_exchange_places : Stmt := top 17
abbrev s_taken : Stmt := top 18
abbrev s_turned_call : Stmt := top 19
abbrev s_look_bar : Stmt := top 23
abbrev s_look_figure : Stmt := top 24
abbrev s_turned : Stmt := top 25
abbrev s__law_numbers : Stmt := top 27
abbrev s__law_same : Stmt := top 28
abbrev s__law_ring : Stmt := top 29
abbrev s__law_ring_swaps : Stmt := top 30
abbrev s__law_swaps : Stmt := top 31
abbrev s__law_takes : Stmt := top 32
abbrev s__law_call : Stmt := top 33
abbrev s__law_spots : Stmt := top 34
abbrev s__law_back_call : Stmt := top 35
abbrev s__law_loose_bar : Stmt := top 36
abbrev s__law_bar : Stmt := top 37
abbrev s__law_figure : Stmt := top 38
abbrev s__law_copied : Stmt := top 39
abbrev s_law : Stmt := top 40
local macro_rules | `(tactic| walk_at "hp") => `(tactic| first | assumption | exact upd_same | solve_by_elim (maxDepth := 12))
local macro_rules | `(tactic| walk_at "sm") => `(tactic| first | assumption | exact Same.refl _ | (intro b o e; solve_by_elim (maxDepth := 14)))
local macro_rules | `(tactic| walk_at "sq") => `(tactic| first | exact Or.inl (SqL.of (by walk_at "hp")) | exact Or.inr (SqT.of (by walk_at "hp")))
local macro_rules | `(tactic| walk_at "rs") => `(tactic| first | omega | decide | exact cmulL (by omega) (by omega) | exact cmulR (by omega) (by omega) | exact ⟨by decide, by decide⟩ | exact cmulL (by decide) (by decide) | exact cmulR (by decide) (by decide))
local macro_rules | `(tactic| walk_at "rc") => `(tactic| first | omega | rfl | decide +kernel | (intro z; cases z; done))
local macro_rules | `(tactic| walk_at "rd1") => `(tactic| first
  | with_reducible refine i_C ?_
  | ((with_reducible apply i_var); (focus (exact rfl)))
  | with_reducible refine i_op ?_
  | with_reducible refine i_un ?_
  | with_reducible refine i_rI0 ?_
  | ((with_reducible refine i_rI ?c ?q); focus (walk_at "rs"))
  | with_reducible refine i_rU ?_
  | with_reducible refine i_test ?_
  | with_reducible refine i_tB ?_
  | with_reducible refine i_bl ?_
  | with_reducible refine i_seq ?_
  | with_reducible refine i_ifS ?_
  | with_reducible refine i_next ?_
  | with_reducible refine i_ret ?_
  | with_reducible refine i_drop ?_
  | with_reducible refine i_asg ?_
  | with_reducible refine i_gname ?_
  | with_reducible refine i_cons ?_
  | with_reducible refine i_nil ?_
  | with_reducible refine i_call ?_
  | with_reducible refine i_CB ?_
  | with_reducible refine i_chain ?_
  | with_reducible refine i_chain3 ?_
  | with_reducible refine i_if ?_
  | with_reducible refine i_and ?_
  | with_reducible refine i_or ?_
  | with_reducible refine i_not ?_
  | with_reducible refine i_andV ?_
  | with_reducible refine i_orV ?_
  | with_reducible refine i_notV ?_
  | with_reducible refine i_tup ?_
  | with_reducible refine i_lst ?_
  | with_reducible refine i_sl ?_
  | with_reducible refine i_nopart ?_
  | with_reducible refine i_part ?_
  | with_reducible refine i_int ?_
  | with_reducible refine i_abs ?_
  | with_reducible refine i_forL ?_
  | with_reducible refine i_for1 ?_
  | with_reducible refine i_bm ?_
  | ((with_reducible apply i_tyL); (focus (walk_at "hp")))
  | with_reducible refine i_kget ?_
  | with_reducible refine i_keyS ?_
  | with_reducible refine i_isN ?_
  | ((with_reducible refine rd_eq ?e ?q); (focus (exact rfl)))
  | ((with_reducible refine rd_ne ?e ?q); (focus (exact rfl)))
  | ((with_reducible apply rd_ixT); (focus (walk_at "hp")); (focus (exact rfl)))
  | ((with_reducible apply rd_ixL); (focus (walk_at "hp")); (focus (first | assumption | exact rfl)))
  | ((with_reducible refine i_new ?c ?q); (focus (exact Nat.le_trans (Nat.le_of_ble_eq_true rfl) k1000)); intro p H' hp hs he)
  | ((with_reducible apply rd_inT); (focus (walk_at "hp")); (focus (exact rfl)); (focus (exact rfl)))
  | ((with_reducible apply rd_inL); (focus (walk_at "hp")); (focus (exact rfl)); (focus (exact rfl)))
  | ((with_reducible apply i_truT); (focus (walk_at "hp")))
  | ((with_reducible apply i_truL); (focus (walk_at "hp")))
  | ((with_reducible apply i_sum0); (focus (walk_at "hp")); (focus (walk_at "hp")))
  | ((with_reducible apply i_sum1); (focus (walk_at "hp")); (focus (walk_at "hp")); (focus (walk_at "hp")))
  | ((with_reducible refine i_rng2 ?q); intro p H' hp hs he)
  | ((with_reducible refine i_rng1 ?q); intro p H' hp hs he)
  | ((with_reducible apply i_listR); (focus (walk_at "hp")); (focus (omega)); intro p H' hp hs he)
  | ((with_reducible apply i_len); (focus (walk_at "sq")))
  | ((with_reducible apply i_listL); (focus (walk_at "sq")); intro p H' hp hs he)
  | ((with_reducible apply i_slL); (focus (walk_at "hp")); intro p H' hp hs he)
  | ((with_reducible apply i_cat); (focus (walk_at "hp")); (focus (walk_at "hp")); (focus (exact Nat.le_trans (Nat.le_of_ble_eq_true rfl) k1000)); intro p H' hp hs he)
  | ((with_reducible refine ifT ?c ?q); focus (walk_at "rc"))
  | ((with_reducible refine ifF ?c ?q); focus (walk_at "rc"))
  | ((with_reducible refine ifNT ?c ?q); focus (walk_at "rc"))
  | ((with_reducible refine ifNF ?c ?q); focus (walk_at "rc"))
  | with_reducible refine iteT ?_
  | with_reducible refine iteF ?_
  | ((with_reducible refine ifB ?c ?q); focus (first | rfl | decide +kernel))
  | ((with_reducible refine ifBF ?c ?q); focus (first | rfl | decide +kernel)))
local macro_rules | `(tactic| walk_at "rd") => `(tactic| repeat' (walk_at "rd1"))
local macro_rules | `(tactic| walk_at "ty") => `(tactic| first | exact TyOf.non | exact TyOf.bl _ | exact TyOf.int _ | exact TyOf.str _ | exact TyOf.lst (by walk_at "hp") | exact TyOf.tup (by walk_at "hp"))
local macro_rules | `(tactic| walk_at "rd1") => `(tactic| first
  | with_reducible refine i_comp1 ?_
  | with_reducible refine i_comp2 ?_
  | with_reducible refine i_yes ?_
  | ((with_reducible apply i_isi1); (focus (walk_at "ty")); (focus (exact rfl)))
  | ((with_reducible apply (i_isi2 ["list", "tuple"])); (focus (walk_at "ty")); (focus (walk_at "hp")); (focus (exact rfl)))
  | with_reducible refine i_eqr ?_)
local macro_rules | `(tactic| walk_at "rs") => `(tactic| exact ⟨by omega, by omega⟩)
local macro_rules | `(tactic| walk_at "rd1") => `(tactic| first
  | with_reducible refine i_max2 ?_
  | with_reducible refine i_min2 ?_
  | with_reducible refine i_forE ?_
  | with_reducible refine i_for2 ?_
  | with_reducible refine i_for3 ?_
  | with_reducible refine i_forT ?_
  | ((with_reducible apply i_gtup); (focus (walk_at "hp")); (focus (exact rfl)))
  | with_reducible refine i_gcons ?_
  | with_reducible refine i_gnil ?_
  | with_reducible refine i_gsub ?_
  | with_reducible refine i_setC ?_
  | with_reducible refine i_compL ?_
  | with_reducible refine i_comp3 ?_
  | with_reducible refine i_rev ?_
  | ((with_reducible apply i_rRev); (focus (walk_at "hp")); intro p H' hp hs he)
  | ((with_reducible apply i_aug); (focus (exact rfl)))
  | with_reducible refine i_ipI ?_)
local macro_rules | `(tactic| walk_at "rd1") => `(tactic| first
  | ((with_reducible apply i_slT); (focus (walk_at "hp")); (focus (exact fun z => absurd z.1 (by show ¬ ((1 : Nat) = 0); decide))); intro p H' hp hs he)
  | ((with_reducible apply i_slT); (focus (walk_at "hp")); (focus (exact fun z => absurd z.2 (by show ¬ ((3 : Nat) = 4); decide))); intro p H' hp hs he))
local macro_rules | `(tactic| walk_at "rd1") => `(tactic| ((with_reducible apply i_glst); (focus (walk_at "hp")); (focus (exact rfl))))
local macro_rules | `(tactic| walk_at "rd1") => `(tactic| first | with_reducible refine i_intB ?_ | with_reducible refine i_intI ?_)
def counts : List (Key × V) := [(Sum.inr "ring", .int 3), (Sum.inr "chain", .int 3), (Sum.inr "cross", .int 1), (Sum.inr "pass", .int 2), (Sum.inr "corner", .int 2), (Sum.inr "cast", .int 2), (Sum.inr "lead", .int 2), (Sum.inr "stand", .int 1)]
structure Txt (P : Program) (w : World) (K : PySem.W.Frag) (mg : Str → Option Value) : Prop where
  n_isinstance : mg "isinstance" = none
  n_list : mg "list" = none
  n_tuple : mg "tuple" = none
  n_len : mg "len" = none
  n_all : mg "all" = none
  n_range : mg "range" = none
  n_bool : mg "bool" = none
  n_str : mg "str" = none
  n_int : mg "int" = none
  n_abs : mg "abs" = none
  n_sorted : mg "sorted" = none
  n_enumerate : mg "enumerate" = none
  n_sum : mg "sum" = none
  n_any : mg "any" = none
  n_zip : mg "zip" = none
  n_reversed : mg "reversed" = none
  c_FEWEST_SPOTS : ∃ t, mg "FEWEST_SPOTS" = some (.int 2 t)
  c_MOST_SPOTS : ∃ t, mg "MOST_SPOTS" = some (.int 6 t)
  c_MOST_MANY : ∃ t, mg "MOST_MANY" = some (.int 64 t)
  c_MOST_CALLS : ∃ t, mg "MOST_CALLS" = some (.int 4 t)
  c_MOST_BARS : ∃ t, mg "MOST_BARS" = some (.int 16 t)
  cnt : ∃ a, mg "COUNTS" = some (.ref a) ∧ KDict P w K a counts

theorem k10000 : 10000 ≤ sizeLine := by rw [sizeLine_eq]; decide
def Sm (rs : List Int) : Prop := ∀ x ∈ rs, 0 ≤ x ∧ x < 9967
theorem Sm.nil : Sm [] := fun x h => by simp at h
theorem Sm.snoc {rs : List Int} {z : Int} (h : Sm rs) (h0 : 0 ≤ z) (h1 : z < 9967) : Sm (rs ++ [z]) := fun x hx => by
  rcases List.mem_append.mp hx with y | y
  · exact h x y
  · obtain rfl : x = z := by simpa using y
    exact ⟨h0, h1⟩
theorem Sm.take {rs : List Int} (n : Nat) (h : Sm rs) : Sm (rs.take n) := fun x hx => h x (List.mem_of_mem_take hx)
theorem Sm.drop {rs : List Int} (n : Nat) (h : Sm rs) : Sm (rs.drop n) := fun x hx => h x (List.mem_of_mem_drop hx)
def spNum (K : PySem.W.Frag) : Sp := fun vs H Q _ => ∃ (a : Addr) (ns : List Int) (n : Int), vs = [.ref a, .int n] ∧ SqL K H a (ns.map V.int) ∧ 0 ≤ n ∧ n ≤ 1000 ∧
  ∀ p H' (ms : List Int), Same H H' → H' p = some (.lst (ms.map V.int)) → (ms.length : Int) = n → Sm ms → Q (.ref p) H'
theorem map_snoc (ms : List Int) (z : Int) : ms.map V.int ++ [V.int z] = (ms ++ [z]).map V.int := by simp
theorem cutInts (ns : List Int) (lo hi : Option Int) : ∃ ms : List Int, cutV (ns.map V.int) lo hi = ms.map V.int ∧ ms.length ≤ ns.length := by
  unfold cutV
  generalize HT.sIx (List.map V.int ns).length (List.map V.int ns).length hi - HT.sIx (List.map V.int ns).length 0 lo = x
  generalize HT.sIx (List.map V.int ns).length 0 lo = y
  exact ⟨(ns.drop y).take x, by rw [List.map_take, List.map_drop], by rw [List.length_take, List.length_drop]; omega⟩
theorem cut_to (ns : List Int) {n : Int} (h : 0 ≤ n) : cutV (ns.map V.int) none (some n) = (ns.take n.toNat).map V.int := by
  unfold cutV HT.sIx
  dsimp only
  rw [if_neg (by omega), List.drop_zero, Nat.sub_zero, List.map_take, List.take_eq_take_iff]
  omega
theorem six63 (n : Nat) : HT.sIx n n (some 63) ≤ 63 := by
  unfold HT.sIx
  dsimp only
  rw [if_neg (by decide)]
  exact Nat.min_le_left _ _
section
variable {P : Program} {w : World} {K : PySem.W.Frag} {mg : Str → Option Value} {base : Heap}
theorem sc__law_numbers : FnScope ["_law_script", "_law_many", "_law_row", "_law_seed", "_law_cell", "_law_rest", "_law_k"] ["_law_script", "_law_many"] (defScope s__law_numbers) := ⟨rfl, rfl, rfl, by decide +kernel, rfl, by decide +kernel, by decide +kernel⟩
theorem ok__law_numbers {f : Addr} {fd : FuncData} (F : Fun K "_law_numbers" "_law_numbers" s__law_numbers f fd) (T : Txt P w K mg)   : FnOk P w K mg base CX0 (0 + 1) f fd ["_law_script", "_law_many"] (spNum K) := by
  refine F.ok sc__law_numbers (fun vs H Q E h => ?_) (fun cdv A outer s H vs Q E hr h => ?_)
  · obtain ⟨a, ns, n, rfl, _⟩ := h
    rfl
  · obtain ⟨a, ns, n, rfl, hS, hn0, hn1, k⟩ := h
    refine ⟨_, (pss_cons (ps_set (i := 2) sc__law_numbers.nd rfl (Or.inl rfl) (pe_lst pa_nil))
      (pss_cons (ps_set (i := 3) sc__law_numbers.nd rfl (Or.inl rfl) pe_int)
      (pss_cons (ps_for PassesOwn.never rfl (pi_list (pe_slice sl_list (pv 0) po_none (po_some pe_int))) (pg_name (i := 4) sc__law_numbers.nd rfl (Or.inl rfl))
      (pss_cons (ps_set (i := 3) sc__law_numbers.nd rfl (Or.inl rfl) (pe_op op_mod (pe_op op_add (pe_op op_add (pe_op op_mul (pv 3) pe_int) (pe_op op_mod (pv 4) pe_int)) pe_int) pe_int))
      (pss_cons (ps_set (i := 5) sc__law_numbers.nd rfl (Or.inl rfl) (pe_op op_sub (pv 4) (pe_op op_pow pe_int pe_int)))
      (pss_cons (ps_if (pt_cmpR op_lt (pv 5) pe_int (nomark _))
      (pss_one (ps_expr (pe_bm PySem.F.plainAttrs_list PySem.F.slot_list_append PySem.F.type_list_append mt_append (pv 2) (pa_cons (pe_op op_mod (pv 4) pe_int) pa_nil))))
      pss_nil)
      (pss_one (ps_for PassesOwn.never rfl (pi_range1 rfl T.n_range (pa_cons pe_int pa_nil)) (pg_name (i := 6) sc__law_numbers.nd rfl (Or.inl rfl))
      (pss_one (ps_if (pt_cmpR op_gt (pv 5) pe_int (nomark _))
      (pss_cons (ps_expr (pe_bm PySem.F.plainAttrs_list PySem.F.slot_list_append PySem.F.type_list_append mt_append (pv 2) (pa_cons (pe_op op_mod (pv 5) pe_int) pa_nil)))
      (pss_one (ps_set (i := 5) sc__law_numbers.nd rfl (Or.inl rfl) (pe_op op_fdiv (pv 5) pe_int))))
      pss_nil))))))))
      (pss_cons (ps_while PassesOwn.never (pt_cmpR op_lt (pe_callB cl_len (by rfl) T.n_len PySem.boot_len (pa_cons (pv 2) pa_nil)) (pv 1) (nomark _))
      (pss_cons (ps_set (i := 3) sc__law_numbers.nd rfl (Or.inl rfl) (pe_op op_mod (pe_op op_add (pe_op op_add (pe_op op_add (pe_op op_mul (pv 3) (pv 3)) (pe_op op_mul pe_int (pv 3))) (pe_op op_mul pe_int (pe_callB cl_len (by rfl) T.n_len PySem.boot_len (pa_cons (pv 2) pa_nil)))) pe_int) pe_int))
      (pss_one (ps_expr (pe_bm PySem.F.plainAttrs_list PySem.F.slot_list_append PySem.F.type_list_append mt_append (pv 2) (pa_cons (pe_op op_mod (pe_op op_fdiv (pv 3) pe_int) pe_int) pa_nil))))))
      (pss_one (ps_ret (pe_slice sl_list (pv 2) po_none (po_some (pv 1))))))))), ?_⟩
    walk_at "rd"
    rename_i p H1 hp1 hs1 he1
    -- the loop over the script
    obtain ⟨ms, ems, lms⟩ := cutInts ns none (some 63)
    have l63 : ms.length ≤ 63 := by
      have e := congrArg List.length ems
      rw [List.length_map] at e
      rw [← e]
      unfold cutV
      rw [List.length_take]
      have := six63 (List.map V.int ns).length
      omega
    refine i_slS (hs1.seq hS) fun q H2 hq2 hs2 he2 => ?_
    rw [ems] at he2
    have hpq : p ≠ q := ne_of_none he1 hq2
    have hp0 : H p = none := hp1
    have hq0 : H q = none := hs1.free hq2
    refine ⟨q, rfl, ⟨_, SqL.of he2⟩, for_l (xs := ms.map V.int) (fun i σ H3 => ∃ (rs : List Int) (seed : Int) (c r kk : Option V), σ = [some (.ref a), some (.int n), some (.ref p), some (.int seed), c, r, kk] ∧ Same H H3 ∧ H3 q = some (.lst (ms.map V.int)) ∧
      H3 p = some (.lst (rs.map V.int)) ∧ rs.length ≤ 61 * i ∧ 0 ≤ seed ∧ seed < 4294967296 ∧ Sm rs)
      ⟨[], 71, none, none, none, rfl, hs1.trans hs2, he2, hs2 _ _ he1, Nat.zero_le _, by decide, by decide, Sm.nil⟩ (fun i σ H3 _ ⟨_, _, _, _, _, _, _, h4, _⟩ => SqL.of h4) ?_ ?_⟩
    · rintro i y σ H3 hi ⟨rs, seed, c, r, kk, rfl, s3, h3q, h3p, lrs, sd0, sd1, sm3⟩
      have him : i < 63 := by
        have := (List.getElem?_eq_some_iff.mp hi).1
        rw [List.length_map] at this
        omega
      obtain ⟨z, rfl⟩ : ∃ z, y = V.int z := by
        rw [List.getElem?_map] at hi
        cases e : ms[i]? with
        | none => rw [e] at hi; cases hi
        | some z => rw [e] at hi; exact ⟨z, (Option.some.inj hi).symm⟩
      walk_at "rd"
      generalize hsd : (seed * 40692 + z % 999961 + 31) % 2147483399 = seed'
      have sd2 : 0 ≤ seed' ∧ seed' < 4294967296 := by rw [← hsd]; omega
      generalize hrt : z - 10 ^ Int.toNat 18 = rest
      refine ite2 (fun c1 => ?_) (fun c1 => ?_)
      · walk_at "rd"
        refine i_app2 h3p (Nat.lt_of_lt_of_le (by rw [List.length_map]; omega : _ < 10000) k10000) fun H4 h4p h4o => ?_
        have s4 : Same H H4 := fun b o e => h4o b o (ne_of_none e hp0) (s3 b o e)
        have h4q := h4o q _ hpq.symm h3q
        rw [map_snoc] at h4p
        have l4 : (rs ++ [z % 9967]).length ≤ 61 * i + 1 := by rw [List.length_append]; simp; omega
        have sm4 : Sm (rs ++ [z % 9967]) := sm3.snoc (by omega) (by omega)
        generalize rs ++ [z % 9967] = rs' at h4p l4 sm4
        walk_at "rd"
        refine ⟨by decide, by decide, for_r (fun j σ H5 => ∃ (rs5 : List Int) (rt5 : Int) (kk : Option V), σ = [some (.ref a), some (.int n), some (.ref p), some (.int seed'), some (.int z), some (.int rt5), kk] ∧ Same H H5 ∧ H5 q = some (.lst (ms.map V.int)) ∧
          H5 p = some (.lst (rs5.map V.int)) ∧ rs5.length ≤ 61 * i + 1 + j ∧ Sm rs5) ⟨rs', rest, _, rfl, s4, h4q, h4p, l4, sm4⟩ ?_ ?_⟩
        · rintro j σ H5 hj ⟨rs5, rt5, kk5, rfl, s5, h5q, h5p, l5, sm5⟩
          have hj' : j < 60 := hj
          walk_at "rd"
          refine ite2 (fun c2 => ?_) (fun c2 => ?_)
          · walk_at "rd"
            refine i_app2 h5p (Nat.lt_of_lt_of_le (by rw [List.length_map]; omega : _ < 10000) k10000) fun H6 h6p h6o => ?_
            have s6 : Same H H6 := fun b o e => h6o b o (ne_of_none e hp0) (s5 b o e)
            have h6q := h6o q _ hpq.symm h5q
            rw [map_snoc] at h6p
            walk_at "rd"
            exact ⟨_, _, _, rfl, s6, h6q, h6p, by rw [List.length_append]; simp; omega, sm5.snoc (by omega) (by omega)⟩
          · walk_at "rd"
            exact ⟨_, _, _, rfl, s5, h5q, h5p, by omega, sm5⟩
        · rintro σ H5 ⟨rs5, rt5, kk5, rfl, s5, h5q, h5p, l5, sm5⟩
          exact ⟨rs5, seed', _, _, _, rfl, s5, h5q, h5p, by have : (60 : Int).toNat = 60 := rfl; omega, sd2.1, sd2.2, sm5⟩
      · have s4 := s3
        have h4q := h3q
        have h4p := h3p
        have l4 : rs.length ≤ 61 * i + 1 := by omega
        have sm4 := sm3
        generalize rs = rs' at h4p l4 sm4
        generalize H3 = H4 at h4q h4p s4
        walk_at "rd"
        refine ⟨by decide, by decide, for_r (fun j σ H5 => ∃ (rs5 : List Int) (rt5 : Int) (kk : Option V), σ = [some (.ref a), some (.int n), some (.ref p), some (.int seed'), some (.int z), some (.int rt5), kk] ∧ Same H H5 ∧ H5 q = some (.lst (ms.map V.int)) ∧
          H5 p = some (.lst (rs5.map V.int)) ∧ rs5.length ≤ 61 * i + 1 + j ∧ Sm rs5) ⟨rs', rest, _, rfl, s4, h4q, h4p, l4, sm4⟩ ?_ ?_⟩
        · rintro j σ H5 hj ⟨rs5, rt5, kk5, rfl, s5, h5q, h5p, l5, sm5⟩
          have hj' : j < 60 := hj
          walk_at "rd"
          refine ite2 (fun c2 => ?_) (fun c2 => ?_)
          · walk_at "rd"
            refine i_app2 h5p (Nat.lt_of_lt_of_le (by rw [List.length_map]; omega : _ < 10000) k10000) fun H6 h6p h6o => ?_
            have s6 : Same H H6 := fun b o e => h6o b o (ne_of_none e hp0) (s5 b o e)
            have h6q := h6o q _ hpq.symm h5q
            rw [map_snoc] at h6p
            walk_at "rd"
            exact ⟨_, _, _, rfl, s6, h6q, h6p, by rw [List.length_append]; simp; omega, sm5.snoc (by omega) (by omega)⟩
          · walk_at "rd"
            exact ⟨_, _, _, rfl, s5, h5q, h5p, by omega, sm5⟩
        · rintro σ H5 ⟨rs5, rt5, kk5, rfl, s5, h5q, h5p, l5, sm5⟩
          exact ⟨rs5, seed', _, _, _, rfl, s5, h5q, h5p, by have : (60 : Int).toNat = 60 := rfl; omega, sd2.1, sd2.2, sm5⟩
    · rintro σ H3 ⟨rs, seed, c, r, kk, rfl, s3, h3q, h3p, lrs, sd0, sd1, sm3⟩
      have lrs' : rs.length ≤ 61 * 63 := by rw [List.length_map] at lrs; omega
      refine while_by (fun σ H4 => ∃ (rs : List Int) (seed : Int), σ = [some (.ref a), some (.int n), some (.ref p), some (.int seed), c, r, kk] ∧ Same H H4 ∧ H4 p = some (.lst (rs.map V.int)) ∧ rs.length ≤ 5000 ∧ 0 ≤ seed ∧ seed < 4294967296 ∧ Sm rs)
        (fun _ H4 => match H4 p with | some (.lst xs) => n.toNat - xs.length | _ => 0) ⟨rs, seed, rfl, s3, h3p, by omega, sd0, sd1, sm3⟩ ?_ ?_
      · rintro σ H4 ⟨rs4, seed4, rfl, s4, h4p, l4, d0, d1, sm4⟩
        walk_at "rd"
        refine ite2 (fun c1 => ?_) (fun c1 => ?_)
        · walk_at "rd"
          have c1' := of_decide_eq_true c1
          rw [List.length_map] at c1'
          refine i_app2 h4p (Nat.lt_of_lt_of_le (by rw [List.length_map]; omega : _ < 10000) k10000) fun H6 h6p h6o => ?_
          have s6 : Same H H6 := fun b o e => h6o b o (ne_of_none e hp0) (s4 b o e)
          rw [map_snoc] at h6p
          generalize hv : (seed4 * seed4 + 48271 * seed4 + 17 * ((List.map V.int rs4).length : Int) + 5) % 2147483629 = sd at *
          refine ⟨⟨_, sd, rfl, s6, h6p, by rw [List.length_append]; simp; omega, by rw [← hv]; omega, by rw [← hv]; omega, sm4.snoc (by omega) (by omega)⟩, ?_⟩
          rw [h6p, h4p]
          simp only [List.length_map, List.length_append, List.length_singleton]
          omega
        · walk_at "rd"
          rename_i p5 H5 hp5 hs5 he5
          have c1' : ¬ ((rs4.length : Int) < n) := fun z => c1 (decide_eq_true (by rw [List.length_map]; exact z))
          rw [cut_to rs4 hn0] at he5
          exact k _ _ _ (s4.trans hs5) he5 (by rw [List.length_take]; omega) (sm4.take _)
      · rintro σ H4 Q1 Q2 hQ ⟨v, h1, p1, ys, h2, h3, v2, h4, i1, j1, h5, h6, k1, h7, q1⟩
        exact ⟨v, h1, p1, ys, h2, h3, v2, h4, i1, j1, h5, h6, k1, h7, hQ _ _ q1⟩
end

def spSame (n : Nat) : Sp := fun vs H Q _ => ∃ d x y, vs = [x, y] ∧ Den H n d x ∧ Den H n d y ∧ ∀ H', Same H H' → Q (.bl true) H'
theorem rd_same {H : Hp} {Q : VK} {E : XK} {n : Nat} {d : D} {x y : V} (h1 : Den H n d x) (h2 : Den H n d y) (q : ∀ H', Same H H' → Q (.bl true) H') : spSame n [x, y] H Q E := ⟨d, x, y, rfl, h1, h2, q⟩
section
variable {P : Program} {w : World} {K : PySem.W.Frag} {mg : Str → Option Value} {base : Heap}
theorem sc__law_same : FnScope ["_law_found", "_law_due"] ["_law_found", "_law_due"] (defScope s__law_same) := ⟨rfl, rfl, rfl, by decide +kernel, rfl, by decide +kernel, by decide +kernel⟩
theorem ok__law_same {f : Addr} {fd : FuncData} (F : Fun K "_law_same" "_law_same" s__law_same f fd) (T : Txt P w K mg) (n : Nat) (F__law_same : FnAt P w K mg base "_law_same" n (spSame n)) : FnOk P w K mg base CX0 (n + 1) f fd ["_law_found", "_law_due"] (spSame (n + 1)) := by
  refine F.ok sc__law_same (fun vs H Q E h => ?_) (fun cdv A outer s H vs Q E hr h => ?_)
  · obtain ⟨d, x, y, rfl, _⟩ := h
    rfl
  · obtain ⟨d, x, y, rfl, hx, hy, k⟩ := h
    refine ⟨_, (pss_cons (ps_if (pt_cmpR op_isN (pv 1) pe_non (nomark _))
      (pss_one (ps_ret (pe_cmpR op_isN (pv 0) pe_non (nomark _))))
      pss_nil)
      (pss_cons (ps_if (pt_val (pe_callB call_isi (by rfl) T.n_isinstance bt_isinstance (pa_cons (pv 1) (pa_cons (pe_tup (pa_cons (pe_ty bt_list T.n_list) (pa_cons (pe_ty bt_tuple T.n_tuple) pa_nil))) pa_nil))))
      (pss_cons (ps_if ((pw_or (pt_cmpR op_ne (pe_callB call_isi (by rfl) T.n_isinstance bt_isinstance (pa_cons (pv 0) (pa_cons (pe_ty bt_list T.n_list) pa_nil))) (pe_callB call_isi (by rfl) T.n_isinstance bt_isinstance (pa_cons (pv 1) (pa_cons (pe_ty bt_list T.n_list) pa_nil))) (nomark _)) (pw_or1 (pt_cmpR op_ne (pe_callB call_isi (by rfl) T.n_isinstance bt_isinstance (pa_cons (pv 0) (pa_cons (pe_ty bt_tuple T.n_tuple) pa_nil))) (pe_callB call_isi (by rfl) T.n_isinstance bt_isinstance (pa_cons (pv 1) (pa_cons (pe_ty bt_tuple T.n_tuple) pa_nil))) (nomark _))))).pt
      (pss_one (ps_ret pe_bl))
      pss_nil)
      (pss_one (ps_ret (pe_and (pe_cmpR op_eq (pe_callB cl_len (by rfl) T.n_len PySem.boot_len (pa_cons (pv 0) pa_nil)) (pe_callB cl_len (by rfl) T.n_len PySem.boot_len (pa_cons (pv 1) pa_nil)) (nomark _)) (pe_one (pe_callB (cl_all rfl) (by rfl) T.n_all bt_all (pa_cons (pe_comp (N := ["_law_k", "_law_found", "_law_due"]) (k := 1) (caps := [0, 1]) rfl (compOk_of ["_law_found", "_law_due"] (defScope s__law_same).names (by decide +kernel)) (pi_range1 rfl T.n_range (pa_cons (pe_callB cl_len (by rfl) T.n_len PySem.boot_len (pa_cons (pv 1) pa_nil)) pa_nil)) (fun _ _ _ _ => (pg_name (i := 0) (show List.Nodup (["_law_k", "_law_found", "_law_due"] : List Str) by decide +kernel) rfl (Or.inl rfl))) (fun _ _ _ _ => pcs_nil) (fun _ _ _ _ => (pe_fn F__law_same (hr.mono (by omega)) (pa_cons (pe_ix (kIx (r := rIx) (K := K) ix_seq rfl) (pv 1) (pv 0) (fun _ _ => rfl)) (pa_cons (pe_ix (kIx (r := rIx) (K := K) ix_seq rfl) (pv 2) (pv 0) (fun _ _ => rfl)) pa_nil))))) pa_nil)))))))
      pss_nil)
      (pss_cons (ps_if ((pw_or (pt_cmpR op_ne (pe_callB call_isi (by rfl) T.n_isinstance bt_isinstance (pa_cons (pv 0) (pa_cons (pe_ty bt_bool T.n_bool) pa_nil))) (pe_callB call_isi (by rfl) T.n_isinstance bt_isinstance (pa_cons (pv 1) (pa_cons (pe_ty bt_bool T.n_bool) pa_nil))) (nomark _)) (pw_or1 (pt_cmpR op_ne (pe_callB call_isi (by rfl) T.n_isinstance bt_isinstance (pa_cons (pv 0) (pa_cons (pe_ty bt_str T.n_str) pa_nil))) (pe_callB call_isi (by rfl) T.n_isinstance bt_isinstance (pa_cons (pv 1) (pa_cons (pe_ty bt_str T.n_str) pa_nil))) (nomark _))))).pt
      (pss_one (ps_ret pe_bl))
      pss_nil)
      (pss_one (ps_ret (pe_and (pe_cmpR op_eq (pe_callB call_isi (by rfl) T.n_isinstance bt_isinstance (pa_cons (pv 0) (pa_cons (pe_ty bt_int T.n_int) pa_nil))) (pe_callB call_isi (by rfl) T.n_isinstance bt_isinstance (pa_cons (pv 1) (pa_cons (pe_ty bt_int T.n_int) pa_nil))) (nomark _)) (pe_one (pe_cmpR op_eq (pv 0) (pv 1) (nomark _))))))))), ?_⟩
    cases d with
    | non =>
      obtain rfl : x = .non := hx
      obtain rfl : y = .non := hy
      walk_at "rd"
      exact k _ (by walk_at "sm")
    | bl b =>
      obtain rfl : x = .bl b := hx
      obtain rfl : y = .bl b := hy
      walk_at "rd"
      exact fin_dec rfl (k _ (by walk_at "sm"))
    | int i =>
      obtain rfl : x = .int i := hx
      obtain rfl : y = .int i := hy
      walk_at "rd"
      exact fin_dec rfl (k _ (by walk_at "sm"))
    | str z =>
      obtain rfl : x = .str z := hx
      obtain rfl : y = .str z := hy
      walk_at "rd"
      exact fin_dec rfl (k _ (by walk_at "sm"))
    | lst ds =>
      obtain ⟨a, xs, rfl, ha, la, px⟩ := hx
      obtain ⟨b, ys, rfl, hb, lb, py⟩ := hy
      have ex : ds.length = xs.length := px.length
      have ey : ds.length = ys.length := py.length
      walk_at "rd"
      refine ifT (by rw [← ex, ← ey]) ?_
      walk_at "rd"
      rename_i p1 H1 hp1 hs1 he1
      refine ⟨by omega, by omega, comp_r fun D hD => ?_⟩
      have hD0 : H D = none := hs1.free hD
      have s0 : Same H (upd H1 D (.lst [])) := hs1.trans (same_upd hD)
      refine ⟨fun i zs σ' H' => ∃ kk, σ' = [kk, some (.ref a), some (.ref b)] ∧ zs = List.replicate i (.bl true) ∧ Same H H', ⟨none, rfl, rfl, s0⟩, ?_, ?_⟩
      · rintro i zs σ' H' hi ⟨kk, rfl, rfl, s'⟩ hl
        have hi' : i < ys.length := by simpa using hi
        obtain ⟨d1, v1, e1, f1, g1⟩ := paired_at px (i := i) (by omega)
        obtain ⟨d2, v2, e2, f2, g2⟩ := paired_at py (i := i) (by omega)
        have ed : d1 = d2 := by rw [e1] at e2; exact Option.some.inj e2
        subst ed
        have zi : (0 : Int) + (i : Int) = (i : Int) := by omega
        rw [zi]
        walk_at "rd"
        refine i_ixSeqL (s' _ _ ha) (atI_nat f1) ?_
        walk_at "rd"
        refine i_ixSeqL (s' _ _ hb) (atI_nat f2) ?_
        walk_at "rd"
        refine rd_same (g1.mono s') (g2.mono s') fun H5 s5 => ?_
        refine yield_ok (s5 _ _ hl) (by rw [List.length_replicate]; exact Nat.lt_of_lt_of_le (by omega : i < 1000) k1000) hi ⟨_, rfl, by rw [List.replicate_succ'], same_put (s'.trans s5) hD0⟩
      · rintro zs σ' H' ⟨kk, rfl, rfl, s'⟩ hl
        walk_at "rd"
        refine i_all (List.replicate ((ys.length : Int)).toNat true) (by rw [List.map_replicate]; exact hl) ?_
        refine fin_tt (by simp) ?_
        exact k _ s'
    | tup ds =>
      obtain ⟨a, xs, rfl, ha, la, px⟩ := hx
      obtain ⟨b, ys, rfl, hb, lb, py⟩ := hy
      have ex : ds.length = xs.length := px.length
      have ey : ds.length = ys.length := py.length
      walk_at "rd"
      refine ifT (by rw [← ex, ← ey]) ?_
      walk_at "rd"
      rename_i p1 H1 hp1 hs1 he1
      refine ⟨by omega, by omega, comp_r fun D hD => ?_⟩
      have hD0 : H D = none := hs1.free hD
      have s0 : Same H (upd H1 D (.lst [])) := hs1.trans (same_upd hD)
      refine ⟨fun i zs σ' H' => ∃ kk, σ' = [kk, some (.ref a), some (.ref b)] ∧ zs = List.replicate i (.bl true) ∧ Same H H', ⟨none, rfl, rfl, s0⟩, ?_, ?_⟩
      · rintro i zs σ' H' hi ⟨kk, rfl, rfl, s'⟩ hl
        have hi' : i < ys.length := by simpa using hi
        obtain ⟨d1, v1, e1, f1, g1⟩ := paired_at px (i := i) (by omega)
        obtain ⟨d2, v2, e2, f2, g2⟩ := paired_at py (i := i) (by omega)
        have ed : d1 = d2 := by rw [e1] at e2; exact Option.some.inj e2
        subst ed
        have zi : (0 : Int) + (i : Int) = (i : Int) := by omega
        rw [zi]
        walk_at "rd"
        refine i_ixSeqT (s' _ _ ha) (atI_nat f1) ?_
        walk_at "rd"
        refine i_ixSeqT (s' _ _ hb) (atI_nat f2) ?_
        walk_at "rd"
        refine rd_same (g1.mono s') (g2.mono s') fun H5 s5 => ?_
        refine yield_ok (s5 _ _ hl) (by rw [List.length_replicate]; exact Nat.lt_of_lt_of_le (by omega : i < 1000) k1000) hi ⟨_, rfl, by rw [List.replicate_succ'], same_put (s'.trans s5) hD0⟩
      · rintro zs σ' H' ⟨kk, rfl, rfl, s'⟩ hl
        walk_at "rd"
        refine i_all (List.replicate ((ys.length : Int)).toNat true) (by rw [List.map_replicate]; exact hl) ?_
        refine fin_tt (by simp) ?_
        exact k _ s'
theorem ok_same {f : Addr} {fd : FuncData} (F : Fun K "_law_same" "_law_same" s__law_same f fd) (T : Txt P w K mg) (bb : Binds K fd ["_law_found", "_law_due"] []) (hm : mg "_law_same" = some (.ref f)) (hk : PySem.W.keepIn K (.ref f) = true) : ∀ n, FnOk P w K mg base CX0 n f fd ["_law_found", "_law_due"] (spSame n)
  | 0 => ⟨fun vs H Q E h => by obtain ⟨d, x, y, rfl, _⟩ := h; rfl, fun A outer s H args us vs Q E hr e0 hb r h => by obtain ⟨d, x, y, rfl, h1, _⟩ := h; exact h1.elim⟩
  | n + 1 => ok__law_same F T n ⟨f, fd, _, ok_same F T bb hm hk n, bb, hm, hk⟩
end


inductive Call where
  | ring (f l m : Int) | chain (f l m : Int) | cross (s : Int) | pass (s d : Int) | corner (s d : Int) | cast (f l : Int) | lead (f l : Int) | stand (m : Int)
def Call.word : Call → Str
  | .ring .. => "ring" | .chain .. => "chain" | .cross .. => "cross" | .pass .. => "pass" | .corner .. => "corner" | .cast .. => "cast" | .lead .. => "lead" | .stand .. => "stand"
def Call.nums : Call → List V
  | .ring f l m => [.int f, .int l, .int m] | .chain f l m => [.int f, .int l, .int m] | .cross s => [.int s] | .pass s d => [.int s, .int d] | .corner s d => [.int s, .int d] | .cast f l => [.int f, .int l] | .lead f l => [.int f, .int l] | .stand m => [.int m]
def Call.Ok (n : Int) : Call → Prop
  | .ring f l m => 0 ≤ f ∧ f < l ∧ l < n ∧ m ≠ 0 ∧ -64 ≤ m ∧ m ≤ 64
  | .chain f l m => 0 ≤ f ∧ f < l ∧ l < n ∧ m ≠ 0 ∧ -64 ≤ m ∧ m ≤ 64
  | .cross s => 0 ≤ s ∧ s < n
  | .pass s d => 0 ≤ s ∧ s < n - 1 ∧ (d = 0 ∨ d = 1)
  | .corner s d => 0 ≤ s ∧ s < n - 1 ∧ (d = 0 ∨ d = 1)
  | .cast f l => 0 ≤ f ∧ f < l ∧ l < n
  | .lead f l => 0 ≤ f ∧ f < l ∧ l < n
  | .stand m => 1 ≤ m ∧ m ≤ 64
def CallAt (H : Hp) (v : V) (c : Call) : Prop := ∃ a, v = .ref a ∧ H a = some (.tup (.str c.word :: c.nums))
theorem CallAt.same {H H' : Hp} {v : V} {c : Call} (s : Same H H') (h : CallAt H v c) : CallAt H' v c := by
  obtain ⟨a, e, h⟩ := h; exact ⟨a, e, s _ _ h⟩
theorem CallAt.same' {H H' : Hp} {v : V} {c : Call} (h : CallAt H v c) (s : Same H H') : CallAt H' v c := h.same s
def spots (n : Int) : Prop := 2 ≤ n ∧ n ≤ 6
def spLook : Sp := fun vs H Q _ => ∃ n, vs = [.int n] ∧ spots n ∧ Q .non H
def spSpan : Sp := fun vs H Q _ => ∃ n f l, vs = [.int n, .int f, .int l] ∧ Q (.bl (decide (0 ≤ f ∧ f < l ∧ l < n))) H
def spFit : Sp := fun vs H Q _ => ∃ n v c, vs = [.int n, v] ∧ CallAt H v c ∧ spots n ∧ c.Ok n ∧ ∀ H', Same H H' → Q (.bl true) H'
def spCall : Sp := fun vs H Q _ => ∃ n v c, vs = [.int n, v] ∧ CallAt H v c ∧ spots n ∧ c.Ok n ∧ ∀ H', Same H H' → Q .non H'

def Call.takes : Call → List V
  | .ring f l _ => rangeV (2 * f) (2 * l + 2 - 2 * f).toNat | .chain f l _ => rangeV (2 * f) (2 * l + 2 - 2 * f).toNat | .cross s => [.int (2 * s), .int (2 * s + 1)] | .pass s d => [.int (2 * s + d), .int (2 * s + 2 + d)] | .corner s d => [.int (2 * s + d), .int (2 * s + 3 - d)]
  | .cast f l => rangeV (2 * f) (2 * l + 2 - 2 * f).toNat | .lead f l => rangeV (2 * f) (2 * l + 2 - 2 * f).toNat | .stand _ => []
def Call.exch : Call → Bool
  | .cross _ => true | .pass _ _ => true | .corner _ _ => true | _ => false
def spExch : Sp := fun vs H Q _ => ∃ v c, vs = [v] ∧ CallAt H v c ∧ c.exch = true ∧ ∀ p H', H p = none → Same H H' → H' p = some (.lst c.takes) → Q (.ref p) H'
def spTaken : Sp := fun vs H Q _ => ∃ n v c, vs = [.int n, v] ∧ CallAt H v c ∧ spots n ∧ c.Ok n ∧ ∀ p H', H p = none → Same H H' → H' p = some (.lst c.takes) → Q (.ref p) H'
theorem rd_look {H : Hp} {Q : VK} {E : XK} {n : Int} (h : spots n) (q : Q .non H) : spLook [.int n] H Q E := ⟨n, rfl, h, q⟩
theorem rd_span {H : Hp} {Q : VK} {E : XK} {n f l : Int} (q : Q (.bl (decide (0 ≤ f ∧ f < l ∧ l < n))) H) : spSpan [.int n, .int f, .int l] H Q E := ⟨n, f, l, rfl, q⟩
theorem rd_fit {H : Hp} {Q : VK} {E : XK} {n : Int} {v : V} {c : Call} (h : CallAt H v c) (h1 : spots n) (h2 : c.Ok n) (q : ∀ H', Same H H' → Q (.bl true) H') : spFit [.int n, v] H Q E := ⟨n, v, c, rfl, h, h1, h2, q⟩
theorem rd_call {H : Hp} {Q : VK} {E : XK} {n : Int} {v : V} {c : Call} (h : CallAt H v c) (h1 : spots n) (h2 : c.Ok n) (q : ∀ H', Same H H' → Q .non H') : spCall [.int n, v] H Q E := ⟨n, v, c, rfl, h, h1, h2, q⟩
theorem rd_exch {H : Hp} {Q : VK} {E : XK} {v : V} {c : Call} (h : CallAt H v c) (h2 : c.exch = true) (q : ∀ p H', H p = none → Same H H' → H' p = some (.lst c.takes) → Q (.ref p) H') : spExch [v] H Q E := ⟨v, c, rfl, h, h2, q⟩
local macro_rules | `(tactic| walk_at "rd1") => `(tactic| first
  | (refine rd_look ?h ?q; (case h => assumption))
  | refine rd_span ?_)
local macro_rules | `(tactic| walk_at "ca") => `(tactic| first | assumption | exact CallAt.same' (by assumption) (by walk_at "sm"))
local macro_rules | `(tactic| walk_at "fr") => `(tactic| first | assumption | (refine Same.free ?_ (by assumption); walk_at "sm"))
local macro_rules | `(tactic| walk_at "rd1") => `(tactic| first
  | ((with_reducible apply rd_fit); (focus (walk_at "ca")); (focus (assumption)); (focus (assumption)); intro H' hs)
  | ((with_reducible apply rd_call); (focus (walk_at "ca")); (focus (assumption)); (focus (assumption)); intro H' hs)
  | ((with_reducible apply rd_exch); (focus (walk_at "ca")); (focus (rfl)); intro p H' hp hs he))
section
variable {P : Program} {w : World} {K : PySem.W.Frag} {mg : Str → Option Value} {base : Heap}
theorem sc_look_spots : FnScope ["spots"] ["spots"] (defScope s_look_spots) := ⟨rfl, rfl, rfl, by decide +kernel, rfl, by decide +kernel, by decide +kernel⟩
theorem ok_look_spots {f : Addr} {fd : FuncData} (F : Fun K "look_spots" "look_spots" s_look_spots f fd) (T : Txt P w K mg)   : FnOk P w K mg base CX0 (0 + 1) f fd ["spots"] spLook := by
  refine F.ok sc_look_spots (fun vs H Q E h => ?_) (fun cdv A outer s H vs Q E hr h => ?_)
  · obtain ⟨n, rfl, _⟩ := h
    rfl
  · obtain ⟨n, rfl, ⟨h1, h2⟩, k⟩ := h
    refine ⟨_, (pss_one (ps_if (pt_not (pt_chain op_le op_le (pe_globI T.c_FEWEST_SPOTS) (pv 0) (pe_globI T.c_MOST_SPOTS)))
      (pss_one ps_never)
      pss_nil)), ?_⟩
    walk_at "rd"
    exact k
theorem sc_is_span : FnScope ["spots", "first", "last"] ["spots", "first", "last"] (defScope s_is_span) := ⟨rfl, rfl, rfl, by decide +kernel, rfl, by decide +kernel, by decide +kernel⟩
theorem ok_is_span {f : Addr} {fd : FuncData} (F : Fun K "is_span" "is_span" s_is_span f fd) (T : Txt P w K mg)   : FnOk P w K mg base CX0 (0 + 1) f fd ["spots", "first", "last"] spSpan := by
  refine F.ok sc_is_span (fun vs H Q E h => ?_) (fun cdv A outer s H vs Q E hr h => ?_)
  · obtain ⟨n, f, l, rfl, _⟩ := h
    rfl
  · obtain ⟨n, fi, la, rfl, k⟩ := h
    refine ⟨_, (pss_one (ps_ret (pe_chain3 op_le op_lt op_lt pe_int (pv 1) (pv 2) (pv 0)))), ?_⟩
    walk_at "rd"
    refine ite2 (fun c1 => ?_) (fun c1 => ?_)
    · walk_at "rd"
      have c1' := of_decide_eq_true c1
      refine ite2 (fun c2 => ?_) (fun c2 => ?_)
      · have c2' := of_decide_eq_true c2
        walk_at "rd"
        have e : decide (0 ≤ fi ∧ fi < la ∧ la < n) = decide (la < n) := by
          rw [decide_eq_decide]; omega
        rw [e] at k
        exact k
      · have e : decide (0 ≤ fi ∧ fi < la ∧ la < n) = false := by
          rw [decide_eq_false_iff_not]; intro z; exact c2 (decide_eq_true z.2.1)
        rw [e] at k
        exact k
    · have e : decide (0 ≤ fi ∧ fi < la ∧ la < n) = false := by
        rw [decide_eq_false_iff_not]; intro z; exact c1 (decide_eq_true z.1)
      rw [e] at k
      exact k
theorem sc_numbers_fit : FnScope ["spots", "call", "word"] ["spots", "call"] (defScope s_numbers_fit) := ⟨rfl, rfl, rfl, by decide +kernel, rfl, by decide +kernel, by decide +kernel⟩
theorem ok_numbers_fit {f : Addr} {fd : FuncData} (F : Fun K "numbers_fit" "numbers_fit" s_numbers_fit f fd) (T : Txt P w K mg)  (F_is_span : FnAt P w K mg base "is_span" 1 spSpan) : FnOk P w K mg base CX0 (1 + 1) f fd ["spots", "call"] spFit := by
  refine F.ok sc_numbers_fit (fun vs H Q E h => ?_) (fun cdv A outer s H vs Q E hr h => ?_)
  · obtain ⟨n, v, c, rfl, _⟩ := h
    rfl
  · obtain ⟨n, v, c, rfl, ⟨a, rfl, ha⟩, ⟨n1, n2⟩, hc, k⟩ := h
    refine ⟨_, (pss_cons (ps_set (i := 2) sc_numbers_fit.nd rfl (Or.inl rfl) (pe_ix ix_tup (pv 1) pe_int (fun _ _ => rfl)))
      (pss_cons (ps_if (pt_cmpR op_eq (pv 2) pe_str (nomark _))
      (pss_one (ps_ret (pe_chain op_le op_le pe_int (pe_ix ix_tup (pv 1) pe_int (fun _ _ => rfl)) (pe_globI T.c_MOST_MANY))))
      pss_nil)
      (pss_cons (ps_if (pt_cmpR op_eq (pv 2) pe_str (nomark _))
      (pss_one (ps_ret (pe_chain op_le op_lt pe_int (pe_ix ix_tup (pv 1) pe_int (fun _ _ => rfl)) (pv 0))))
      pss_nil)
      (pss_cons (ps_if (pt_cmpR op_in_seq (pv 2) (pe_tup (pa_cons pe_str (pa_cons pe_str pa_nil))) rfl)
      (pss_one (ps_ret (pe_and (pe_chain op_le op_lt pe_int (pe_ix ix_tup (pv 1) pe_int (fun _ _ => rfl)) (pe_op op_sub (pv 0) pe_int)) (pe_one (pe_cmpR op_in_seq (pe_ix ix_tup (pv 1) pe_int (fun _ _ => rfl)) (pe_tup (pa_cons pe_int (pa_cons pe_int pa_nil))) rfl)))))
      pss_nil)
      (pss_cons (ps_if (pt_cmpR op_in_seq (pv 2) (pe_tup (pa_cons pe_str (pa_cons pe_str pa_nil))) rfl)
      (pss_one (ps_ret (pe_fn F_is_span (hr.mono (by omega)) (pa_cons (pv 0) (pa_cons (pe_ix ix_tup (pv 1) pe_int (fun _ _ => rfl)) (pa_cons (pe_ix ix_tup (pv 1) pe_int (fun _ _ => rfl)) pa_nil))))))
      pss_nil)
      (pss_one (ps_ret (pe_and (pe_fn F_is_span (hr.mono (by omega)) (pa_cons (pv 0) (pa_cons (pe_ix ix_tup (pv 1) pe_int (fun _ _ => rfl)) (pa_cons (pe_ix ix_tup (pv 1) pe_int (fun _ _ => rfl)) pa_nil)))) (pe_one (pe_chain op_le op_le pe_int (pe_callB call_abs (by rfl) T.n_abs bt_abs (pa_cons (pe_ix ix_tup (pv 1) pe_int (fun _ _ => rfl)) pa_nil)) (pe_globI T.c_MOST_MANY))))))))))), ?_⟩
    cases c with
    | ring fi la m =>
      simp only [Call.word, Call.nums, Call.Ok] at ha hc
      have hm : 1 ≤ (if m < 0 then -m else m) ∧ (if m < 0 then -m else m) ≤ 64 := by split <;> omega
      walk_at "rd"
      first | exact k _ (by walk_at "sm") | exact fin_dec (by omega) (k _ (by walk_at "sm")) | exact fin_dec (by split <;> omega) (k _ (by walk_at "sm")) | exact fin_tt (by rfl) (k _ (by walk_at "sm"))
    | chain fi la m =>
      simp only [Call.word, Call.nums, Call.Ok] at ha hc
      have hm : 1 ≤ (if m < 0 then -m else m) ∧ (if m < 0 then -m else m) ≤ 64 := by split <;> omega
      walk_at "rd"
      first | exact k _ (by walk_at "sm") | exact fin_dec (by omega) (k _ (by walk_at "sm")) | exact fin_dec (by split <;> omega) (k _ (by walk_at "sm")) | exact fin_tt (by rfl) (k _ (by walk_at "sm"))
    | cross sp =>
      simp only [Call.word, Call.nums, Call.Ok] at ha hc
      walk_at "rd"
      first | exact k _ (by walk_at "sm") | exact fin_dec (by omega) (k _ (by walk_at "sm")) | exact fin_dec (by split <;> omega) (k _ (by walk_at "sm")) | exact fin_tt (by rfl) (k _ (by walk_at "sm"))
    | pass sp d =>
      simp only [Call.word, Call.nums, Call.Ok] at ha hc
      obtain ⟨hc1, hc2, hd⟩ := hc
      rcases hd with rfl | rfl
      · walk_at "rd"
        first | exact k _ (by walk_at "sm") | exact fin_dec (by omega) (k _ (by walk_at "sm")) | exact fin_dec (by split <;> omega) (k _ (by walk_at "sm")) | exact fin_tt (by rfl) (k _ (by walk_at "sm"))
      · walk_at "rd"
        first | exact k _ (by walk_at "sm") | exact fin_dec (by omega) (k _ (by walk_at "sm")) | exact fin_dec (by split <;> omega) (k _ (by walk_at "sm")) | exact fin_tt (by rfl) (k _ (by walk_at "sm"))
    | corner sp d =>
      simp only [Call.word, Call.nums, Call.Ok] at ha hc
      obtain ⟨hc1, hc2, hd⟩ := hc
      rcases hd with rfl | rfl
      · walk_at "rd"
        first | exact k _ (by walk_at "sm") | exact fin_dec (by omega) (k _ (by walk_at "sm")) | exact fin_dec (by split <;> omega) (k _ (by walk_at "sm")) | exact fin_tt (by rfl) (k _ (by walk_at "sm"))
      · walk_at "rd"
        first | exact k _ (by walk_at "sm") | exact fin_dec (by omega) (k _ (by walk_at "sm")) | exact fin_dec (by split <;> omega) (k _ (by walk_at "sm")) | exact fin_tt (by rfl) (k _ (by walk_at "sm"))
    | cast fi la =>
      simp only [Call.word, Call.nums, Call.Ok] at ha hc
      walk_at "rd"
      first | exact k _ (by walk_at "sm") | exact fin_dec (by omega) (k _ (by walk_at "sm")) | exact fin_dec (by split <;> omega) (k _ (by walk_at "sm")) | exact fin_tt (by rfl) (k _ (by walk_at "sm"))
    | lead fi la =>
      simp only [Call.word, Call.nums, Call.Ok] at ha hc
      walk_at "rd"
      first | exact k _ (by walk_at "sm") | exact fin_dec (by omega) (k _ (by walk_at "sm")) | exact fin_dec (by split <;> omega) (k _ (by walk_at "sm")) | exact fin_tt (by rfl) (k _ (by walk_at "sm"))
    | stand m =>
      simp only [Call.word, Call.nums, Call.Ok] at ha hc
      walk_at "rd"
      first | exact k _ (by walk_at "sm") | exact fin_dec (by omega) (k _ (by walk_at "sm")) | exact fin_dec (by split <;> omega) (k _ (by walk_at "sm")) | exact fin_tt (by rfl) (k _ (by walk_at "sm"))
theorem sc_look_call : FnScope ["spots", "call"] ["spots", "call"] (defScope s_look_call) := ⟨rfl, rfl, rfl, by decide +kernel, rfl, by decide +kernel, by decide +kernel⟩
theorem ok_look_call {f : Addr} {fd : FuncData} (F : Fun K "look_call" "look_call" s_look_call f fd) (T : Txt P w K mg)  (F_look_spots : FnAt P w K mg base "look_spots" 1 spLook) (F_numbers_fit : FnAt P w K mg base "numbers_fit" 2 spFit) : FnOk P w K mg base CX0 (2 + 1) f fd ["spots", "call"] spCall := by
  refine F.ok sc_look_call (fun vs H Q E h => ?_) (fun cdv A outer s H vs Q E hr h => ?_)
  · obtain ⟨n, v, c, rfl, _⟩ := h
    rfl
  · obtain ⟨n, v, c, rfl, hca, hns, hok, k⟩ := h
    obtain ⟨cA, m_COUNTS, d_COUNTS⟩ := T.cnt
    refine ⟨_, (pss_cons (ps_expr (pe_fn F_look_spots (hr.mono (by omega)) (pa_cons (pv 0) pa_nil)))
      (pss_cons (ps_if ((pw_or (pt_not (pt_truth (pv 1) (fun _ => rfl))) (pw_or1 (pt_cmpR op_ne (pe_kget1 d_COUNTS (by rfl) m_COUNTS (pe_ix ix_tup (pv 1) pe_int (fun _ _ => rfl)) ⟨rfl, rfl, rfl, rfl⟩) (pe_op op_sub (pe_callB cl_len (by rfl) T.n_len PySem.boot_len (pa_cons (pv 1) pa_nil)) pe_int) (nomark _))))).pt
      (pss_one ps_never)
      pss_nil)
      (pss_one (ps_if (pt_not (pt_val (pe_fn F_numbers_fit (hr.mono (by omega)) (pa_cons (pv 0) (pa_cons (pv 1) pa_nil)))))
      (pss_one ps_never)
      pss_nil)))), ?_⟩
    obtain ⟨a, rfl, ha⟩ := id hca
    have hc := hok
    cases c with
    | ring fi la m =>
      simp only [Call.word, Call.nums, Call.Ok] at ha hc
      walk_at "rd"
      exact k _ (by walk_at "sm")
    | chain fi la m =>
      simp only [Call.word, Call.nums, Call.Ok] at ha hc
      walk_at "rd"
      exact k _ (by walk_at "sm")
    | cross sp =>
      simp only [Call.word, Call.nums, Call.Ok] at ha hc
      walk_at "rd"
      exact k _ (by walk_at "sm")
    | pass sp d =>
      simp only [Call.word, Call.nums, Call.Ok] at ha hc
      walk_at "rd"
      exact k _ (by walk_at "sm")
    | corner sp d =>
      simp only [Call.word, Call.nums, Call.Ok] at ha hc
      walk_at "rd"
      exact k _ (by walk_at "sm")
    | cast fi la =>
      simp only [Call.word, Call.nums, Call.Ok] at ha hc
      walk_at "rd"
      exact k _ (by walk_at "sm")
    | lead fi la =>
      simp only [Call.word, Call.nums, Call.Ok] at ha hc
      walk_at "rd"
      exact k _ (by walk_at "sm")
    | stand m =>
      simp only [Call.word, Call.nums, Call.Ok] at ha hc
      walk_at "rd"
      exact k _ (by walk_at "sm")
theorem sc_exchange_places : FnScope ["call", "left", "side"] ["call"] (defScope s_exchange_places) := ⟨rfl, rfl, rfl, by decide +kernel, rfl, by decide +kernel, by decide +kernel⟩
theorem ok_exchange_places {f : Addr} {fd : FuncData} (F : Fun K "exchange_places" "exchange_places" s_exchange_places f fd) (T : Txt P w K mg)   : FnOk P w K mg base CX0 (0 + 1) f fd ["call"] spExch := by
  refine F.ok sc_exchange_places (fun vs H Q E h => ?_) (fun cdv A outer s H vs Q E hr h => ?_)
  · obtain ⟨v, c, rfl, _⟩ := h
    rfl
  · obtain ⟨v, c, rfl, ⟨a, rfl, ha⟩, hx, k⟩ := h
    refine ⟨_, (pss_cons (ps_set (i := 1) sc_exchange_places.nd rfl (Or.inl rfl) (pe_op op_mul pe_int (pe_ix ix_tup (pv 0) pe_int (fun _ _ => rfl))))
      (pss_cons (ps_if (pt_cmpR op_eq (pe_ix ix_tup (pv 0) pe_int (fun _ _ => rfl)) pe_str (nomark _))
      (pss_one (ps_ret (pe_lst (pa_cons (pv 1) (pa_cons (pe_op op_add (pv 1) pe_int) pa_nil)))))
      pss_nil)
      (pss_cons (ps_set (i := 2) sc_exchange_places.nd rfl (Or.inl rfl) (pe_ix ix_tup (pv 0) pe_int (fun _ _ => rfl)))
      (pss_cons (ps_if (pt_cmpR op_eq (pe_ix ix_tup (pv 0) pe_int (fun _ _ => rfl)) pe_str (nomark _))
      (pss_one (ps_ret (pe_lst (pa_cons (pe_op op_add (pv 1) (pv 2)) (pa_cons (pe_op op_add (pe_op op_add (pv 1) pe_int) (pv 2)) pa_nil)))))
      pss_nil)
      (pss_one (ps_ret (pe_lst (pa_cons (pe_op op_add (pv 1) (pv 2)) (pa_cons (pe_op op_sub (pe_op op_add (pv 1) pe_int) (pv 2)) pa_nil))))))))), ?_⟩
    cases c with
    | ring fi la m =>
      simp only [Call.word, Call.nums, Call.Ok] at ha
      cases hx
    | chain fi la m =>
      simp only [Call.word, Call.nums, Call.Ok] at ha
      cases hx
    | cross sp =>
      simp only [Call.word, Call.nums, Call.Ok] at ha
      walk_at "rd"
      first | exact k _ _ (by walk_at "fr") (by walk_at "sm") (by assumption)
    | pass sp d =>
      simp only [Call.word, Call.nums, Call.Ok] at ha
      walk_at "rd"
      first | exact k _ _ (by walk_at "fr") (by walk_at "sm") (by assumption)
    | corner sp d =>
      simp only [Call.word, Call.nums, Call.Ok] at ha
      walk_at "rd"
      first | exact k _ _ (by walk_at "fr") (by walk_at "sm") (by assumption)
    | cast fi la =>
      simp only [Call.word, Call.nums, Call.Ok] at ha
      cases hx
    | lead fi la =>
      simp only [Call.word, Call.nums, Call.Ok] at ha
      cases hx
    | stand m =>
      simp only [Call.word, Call.nums, Call.Ok] at ha
      cases hx
end


def natV (ns : List Nat) : List V := ns.map fun (q : Nat) => V.int q
theorem natV_len {ns : List Nat} : (natV ns).length = ns.length := by unfold natV; rw [List.length_map]
theorem natV_at {ns : List Nat} {i : Nat} {q : Nat} (h : ns[i]? = some q) : (natV ns)[i]? = some (.int q) := by unfold natV; rw [List.getElem?_map, h]; rfl
theorem natV_app {ns ms : List Nat} : natV ns ++ natV ms = natV (ns ++ ms) := by unfold natV; rw [List.map_append]
theorem natV_map (n : Nat) (f : Nat → Nat) : ((List.range n).map fun i => V.int ((f i : Nat) : Int)) = natV ((List.range n).map f) := by unfold natV; rw [List.map_map]; rfl
def stillN (n : Nat) : List Nat := List.range (2 * n)
def ringN (f l : Nat) : List Nat := [2 * f] ++ (List.range (l + 1 - f)).map (fun i => 2 * (f + i) + 1) ++ (List.range (l - f)).map (fun i => 2 * (l - i))
theorem ringN_len {f l : Nat} (h : f < l) : (ringN f l).length = 2 * (l - f + 1) := by unfold ringN; simp; omega
section
variable {P : Program} {w : World} {K : PySem.W.Frag} {mg : Str → Option Value} {base : Heap}
end


def Call.isRound : Call → Bool
  | .ring .. => true | .chain .. => true | _ => false
theorem atI_int {α : Type} {xs : List α} {i : Int} {v : α} (h : 0 ≤ i) (e : xs[i.toNat]? = some v) : atI xs i = some v := by
  have := atI_nat e
  rwa [show ((i.toNat : Nat) : Int) = i from by omega] at this
section
variable {P : Program} {w : World} {K : PySem.W.Frag} {mg : Str → Option Value} {base : Heap}
end


def spLRing : Sp := fun vs H Q _ => ∃ f l : Nat, vs = [.int f, .int l] ∧ f < l ∧ l < 6 ∧ ∀ p H', H p = none → Same H H' → H' p = some (.lst (natV (ringN f l))) → Q (.ref p) H'
theorem rd_lring {H : Hp} {Q : VK} {E : XK} {f l : Nat} (h1 : f < l) (h2 : l < 6) (q : ∀ p H', H p = none → Same H H' → H' p = some (.lst (natV (ringN f l))) → Q (.ref p) H') : spLRing [.int f, .int l] H Q E := ⟨f, l, rfl, h1, h2, q⟩
def rg (f l i : Nat) : Nat := (ringN f l).getD i 0
theorem rg_at {f l i : Nat} (h : i < (ringN f l).length) : (ringN f l)[i]? = some (rg f l i) := by unfold rg; rw [List.getD_eq_getElem?_getD, List.getElem?_eq_getElem h]; rfl
def stepN (f l : Nat) (neg ch : Bool) (j : Nat) : List (Nat × Nat) :=
  if ch = true then (List.range (((ringN f l).length - (j + if neg = true then 1 else 0) % 2 + 1) / 2)).map fun i => (rg f l ((j + if neg = true then 1 else 0) % 2 + i * 2), rg f l (((j + if neg = true then 1 else 0) % 2 + i * 2 + 1) % (ringN f l).length))
  else if neg = true then (List.range ((ringN f l).length - 1)).map fun i => (rg f l i, rg f l (i + 1)) else ((List.range ((ringN f l).length - 1)).map fun i => (rg f l i, rg f l (i + 1))).reverse
theorem stepN_len {f l j : Nat} {neg ch : Bool} (h : (ringN f l).length ≤ 12) : (stepN f l neg ch j).length ≤ 12 := by
  unfold stepN
  by_cases c1 : ch = true
  · rw [if_pos c1, List.length_map, List.length_range]; omega
  · rw [if_neg c1]
    by_cases c2 : neg = true
    · rw [if_pos c2, List.length_map, List.length_range]; omega
    · rw [if_neg c2, List.length_reverse, List.length_map, List.length_range]; omega
theorem small_two {a b : Int} (ha : -1000 ≤ a) (ha' : a ≤ 1000) (hb : -1000 ≤ b) (hb' : b ≤ 1000) : Builtin.Range.small a b 2 = true := by
  unfold Builtin.Range.small Builtin.Range.rangeSize
  simp only [Builtin.Range.rangeFitsLong, Bool.and_eq_true, Bool.or_eq_true, decide_eq_true_eq, beq_iff_eq, show (2 : Int) > 0 by decide, if_true]
  split <;> omega
def stepsN (f l : Nat) (neg ch : Bool) (j : Nat) : List (Nat × Nat) := (List.range j).flatMap (stepN f l neg ch)
theorem stepsN_succ {f l j : Nat} {neg ch : Bool} : stepsN f l neg ch (j + 1) = stepsN f l neg ch j ++ stepN f l neg ch j := by unfold stepsN; rw [List.range_succ, List.flatMap_append]; simp
theorem stepsN_len {f l : Nat} {neg ch : Bool} (h : (ringN f l).length ≤ 12) : ∀ j, (stepsN f l neg ch j).length ≤ 12 * j
  | 0 => by simp [stepsN]
  | j + 1 => by rw [stepsN_succ, List.length_append]; have := stepsN_len (neg := neg) (ch := ch) h j; have := stepN_len (j := j) (neg := neg) (ch := ch) h; omega
def Call.rsw : Call → List (Nat × Nat)
  | .ring f l m => stepsN f.toNat l.toNat (decide (m < 0)) false m.natAbs
  | .chain f l m => stepsN f.toNat l.toNat (decide (m < 0)) true m.natAbs
  | _ => []
def spRSw : Sp := fun vs H Q _ => ∃ (n : Nat) (v : V) (c : Call), vs = [v] ∧ CallAt H v c ∧ spots n ∧ c.Ok n ∧ c.isRound = true ∧ ∀ p H', Same H H' → PairsR H' p c.rsw → Q (.ref p) H'
theorem rd_rsw {H : Hp} {Q : VK} {E : XK} {n : Nat} {v : V} {c : Call} (h : CallAt H v c) (h1 : spots n) (h2 : c.Ok n) (h3 : c.isRound = true) (q : ∀ p H', Same H H' → PairsR H' p c.rsw → Q (.ref p) H') : spRSw [v] H Q E := ⟨n, v, c, rfl, h, h1, h2, h3, q⟩
theorem cat_pairs {K : PySem.W.Frag} {H : Hp} {Q : VK} {a b : Addr} {x y : List (Nat × Nat)} (h1 : PairsR H a x) (h2 : PairsR H b y) (l : x.length + y.length ≤ 1000) (q : ∀ p H', H p = none → Same H H' → PairsR H' p (x ++ y) → Q (.ref p) H') : rCat (.ref a) (.ref b) H Q := by
  obtain ⟨ts, e1, p1⟩ := h1
  obtain ⟨us, e2, p2⟩ := h2
  refine i_cat e1 e2 (Nat.le_trans (by rw [List.length_map, List.length_map, p1.length, p2.length]; exact l) k1000) fun p H' hp s h => q p H' hp s ⟨ts ++ us, by rw [h, List.map_append], pr_app (pr_same s p1) (pr_same s p2)⟩
section
variable {P : Program} {w : World} {K : PySem.W.Frag} {mg : Str → Option Value} {base : Heap}
theorem sc__law_ring : FnScope ["_law_first", "_law_last", "_law_found", "_law_spot"] ["_law_first", "_law_last"] (defScope s__law_ring) := ⟨rfl, rfl, rfl, by decide +kernel, rfl, by decide +kernel, by decide +kernel⟩
theorem ok__law_ring {f : Addr} {fd : FuncData} (F : Fun K "_law_ring" "_law_ring" s__law_ring f fd) (T : Txt P w K mg)   : FnOk P w K mg base CX0 (0 + 1) f fd ["_law_first", "_law_last"] spLRing := by
  refine F.ok sc__law_ring (fun vs H Q E h => ?_) (fun cdv A outer s H vs Q E hr h => ?_)
  · obtain ⟨f, l, rfl, _⟩ := h
    rfl
  · obtain ⟨fi, la, rfl, h1, h2, k⟩ := h
    refine ⟨_, (pss_cons (ps_set (i := 2) sc__law_ring.nd rfl (Or.inl rfl) (pe_lst (pa_cons (pe_op op_mul pe_int (pv 0)) pa_nil)))
      (pss_cons (ps_for PassesOwn.never rfl (pi_range2 rfl T.n_range (pa_cons (pv 0) (pa_cons (pe_op op_add (pv 1) pe_int) pa_nil))) (pg_name (i := 3) sc__law_ring.nd rfl (Or.inl rfl))
      (pss_one (ps_expr (pe_bm PySem.F.plainAttrs_list PySem.F.slot_list_append PySem.F.type_list_append mt_append (pv 2) (pa_cons (pe_op op_add (pe_op op_mul pe_int (pv 3)) pe_int) pa_nil)))))
      (pss_one (ps_ret (pe_op op_cat (pv 2) (pe_comp (N := ["_law_k", "_law_last"]) (k := 1) (caps := [1]) rfl (compOk_of ["_law_first", "_law_last", "_law_found", "_law_spot"] (defScope s__law_ring).names (by decide +kernel)) (pi_range1 rfl T.n_range (pa_cons (pe_op op_sub (pv 1) (pv 0)) pa_nil)) (fun _ _ _ _ => (pg_name (i := 0) (show List.Nodup (["_law_k", "_law_last"] : List Str) by decide +kernel) rfl (Or.inl rfl))) (fun _ _ _ _ => pcs_nil) (fun _ _ _ _ => (pe_op op_mul pe_int (pe_op op_sub (pv 1) (pv 0)))))))))), ?_⟩
    walk_at "rd"
    rename_i p1 H1 hp1 s1 e1
    refine ⟨_, _, rfl, by omega, ?_⟩
    rw [show ((la : Int) + 1 - fi).toNat = la + 1 - fi from by omega]
    refine for_r (fun i σ H3 => ∃ o3, σ = [some (.int fi), some (.int la), some (.ref p1), o3] ∧ Same H H3 ∧ H3 p1 = some (.lst (natV ([2 * fi] ++ (List.range i).map fun i => 2 * (fi + i) + 1)))) ⟨_, rfl, s1, by rw [e1]; simp [natV]⟩ ?_ ?_
    · rintro i σ H3 hi ⟨o3, rfl, s3, h3⟩
      walk_at "rd"
      refine i_app2 h3 (Nat.lt_of_lt_of_le (by rw [natV_len]; simp; omega : _ < 1000) k1000) fun H4 h4 h4o => ?_
      walk_at "rd"
      refine ⟨_, rfl, fun b o e => h4o b o (ne_of_none e hp1) (s3 _ _ e), ?_⟩
      rw [h4, show 2 * ((fi : Int) + (i : Int)) + 1 = ((2 * (fi + i) + 1 : Nat) : Int) from by omega, show [V.int ((2 * (fi + i) + 1 : Nat) : Int)] = natV [2 * (fi + i) + 1] from rfl, natV_app, List.range_succ, List.map_append, ← List.append_assoc]
      rfl
    · rintro σ H3 ⟨o3, rfl, s3, h3⟩
      walk_at "rd"
      refine ⟨by omega, by omega, comp_rm (fun i => .int ((2 * (la - i) : Nat) : Int)) ?_ ?_⟩
      · intro D i own H4 hD hi ho s4 e4
        obtain ⟨o, rfl⟩ : ∃ o, own = [o] := by
          match own, ho with
          | [o], _ => exact ⟨o, rfl⟩
        have hi' : i < la - fi := by omega
        walk_at "rd"
        exact yieldM [some (.int (0 + (i : Int)))] (by omega) hi hD s4 e4 (by walk_at "sm") (congrArg V.int (by omega)) rfl rfl
      intro D2 H4 hD2 s4 e4
      rw [natV_map, show ((la : Int) - fi).toNat = la - fi from by omega] at e4
      walk_at "rd"
      refine i_cat (s4 _ _ h3) e4 (Nat.le_trans (by rw [natV_len, natV_len]; simp; omega : _ ≤ 1000) k1000) fun p5 H5 hp5 s5 h5 => ?_
      rw [natV_app] at h5
      exact k _ _ (s3.free (s4.free hp5)) (s3.trans (s4.trans s5)) h5
theorem sc__law_ring_swaps : FnScope ["_law_call_here", "_law_ring_here", "_law_size", "_law_found", "_law_step", "_law_here", "_law_begin"] ["_law_call_here"] (defScope s__law_ring_swaps) := ⟨rfl, rfl, rfl, by decide +kernel, rfl, by decide +kernel, by decide +kernel⟩
theorem ok__law_ring_swaps {f : Addr} {fd : FuncData} (F : Fun K "_law_ring_swaps" "_law_ring_swaps" s__law_ring_swaps f fd) (T : Txt P w K mg)  (F__law_ring : FnAt P w K mg base "_law_ring" 1 spLRing) : FnOk P w K mg base CX0 (1 + 1) f fd ["_law_call_here"] spRSw := by
  refine F.ok sc__law_ring_swaps (fun vs H Q E h => ?_) (fun cdv A outer s H vs Q E hr h => ?_)
  · obtain ⟨n, v, c, rfl, _⟩ := h
    rfl
  · obtain ⟨n, v, c, rfl, ⟨a, rfl, ha⟩, hn, hok, hx, k⟩ := h
    refine ⟨_, (pss_cons (ps_set (i := 1) sc__law_ring_swaps.nd rfl (Or.inr rfl) (pe_fn F__law_ring (hr.mono (by omega)) (pa_cons (pe_ix ix_tup (pv 0) pe_int (fun _ _ => rfl)) (pa_cons (pe_ix ix_tup (pv 0) pe_int (fun _ _ => rfl)) pa_nil))))
      (pss_cons (ps_set (i := 2) sc__law_ring_swaps.nd rfl (Or.inr rfl) (pe_callB cl_len (by rfl) T.n_len PySem.boot_len (pa_cons (pv 1) pa_nil)))
      (pss_cons (ps_set (i := 3) sc__law_ring_swaps.nd rfl (Or.inl rfl) (pe_lst pa_nil))
      (pss_cons (ps_for PassesOwn.never rfl (pi_range1 rfl T.n_range (pa_cons (pe_callB call_abs (by rfl) T.n_abs bt_abs (pa_cons (pe_ix ix_tup (pv 0) pe_int (fun _ _ => rfl)) pa_nil)) pa_nil)) (pg_name (i := 4) sc__law_ring_swaps.nd rfl (Or.inl rfl))
      (pss_one (ps_if (pt_cmpR op_eq (pe_ix ix_tup (pv 0) pe_int (fun _ _ => rfl)) pe_str (nomark _))
      (pss_cons (ps_setC (iy := 5) (N := ["_law_at", "_law_ring_here"]) (k := 1) (caps := [1]) rfl (compOk_of ["_law_call_here", "_law_ring_here", "_law_size", "_law_found", "_law_step", "_law_here", "_law_begin"] (defScope s__law_ring_swaps).names (by decide +kernel)) (pi_range1 rfl T.n_range (pa_cons (pe_op op_sub (pv 2) pe_int) pa_nil)) (fun _ _ _ _ => (pg_name (i := 0) (show List.Nodup (["_law_at", "_law_ring_here"] : List Str) by decide +kernel) rfl (Or.inl rfl))) (fun _ _ _ _ => pcs_nil) (fun _ _ _ _ => (pe_tup (pa_cons (pe_ix (kIx (r := rIxL) (K := K) ix_list rfl) (pv 1) (pv 0) (fun _ _ => rfl)) (pa_cons (pe_ix (kIx (r := rIxL) (K := K) ix_list rfl) (pv 1) (pe_op op_add (pv 0) pe_int) (fun _ _ => rfl)) pa_nil)))) sc__law_ring_swaps.nd rfl (Or.inl rfl))
      (pss_one (ps_set (i := 3) sc__law_ring_swaps.nd rfl (Or.inl rfl) (pe_op op_cat (pv 3) (pe_ifExp (pt_cmpR op_lt (pe_ix ix_tup (pv 0) pe_int (fun _ _ => rfl)) pe_int (nomark _)) (pv 5) (pe_rev (pv 5)))))))
      (pss_cons (ps_set (i := 6) sc__law_ring_swaps.nd rfl (Or.inl rfl) (pe_op op_mod (pe_op op_add (pv 4) (pe_callTy cl_int1 (by rfl) T.n_int bt_int (pa_cons (pe_cmpR op_lt (pe_ix ix_tup (pv 0) pe_int (fun _ _ => rfl)) pe_int (nomark _)) pa_nil))) pe_int))
      (pss_one (ps_set (i := 3) sc__law_ring_swaps.nd rfl (Or.inl rfl) (pe_op op_cat (pv 3) (pe_comp (N := ["_law_at", "_law_ring_here", "_law_size"]) (k := 1) (caps := [1, 2]) rfl (compOk_of ["_law_call_here", "_law_ring_here", "_law_size", "_law_found", "_law_step", "_law_here", "_law_begin"] (defScope s__law_ring_swaps).names (by decide +kernel)) (pi_range3 rfl T.n_range (pa_cons (pv 6) (pa_cons (pv 2) (pa_cons pe_int pa_nil)))) (fun _ _ _ _ => (pg_name (i := 0) (show List.Nodup (["_law_at", "_law_ring_here", "_law_size"] : List Str) by decide +kernel) rfl (Or.inl rfl))) (fun _ _ _ _ => pcs_nil) (fun _ _ _ _ => (pe_tup (pa_cons (pe_ix (kIx (r := rIxL) (K := K) ix_list rfl) (pv 1) (pv 0) (fun _ _ => rfl)) (pa_cons (pe_ix (kIx (r := rIxL) (K := K) ix_list rfl) (pv 1) (pe_op op_mod (pe_op op_add (pv 0) pe_int) (pv 2)) (fun _ _ => rfl)) pa_nil))))))))))))
      (pss_one (ps_ret (pv 3))))))), ?_⟩
    obtain ⟨n1, n2⟩ := id hn
    have hok' := hok
    cases c with
    | cross sp => cases hx
    | pass sp d => cases hx
    | corner sp d => cases hx
    | cast fi la => cases hx
    | lead fi la => cases hx
    | stand m => cases hx
    | ring fi la m =>
      simp only [Call.word, Call.nums, Call.Ok] at ha hok'
      obtain ⟨f, rfl⟩ := Int.eq_ofNat_of_zero_le hok'.1
      obtain ⟨l, rfl⟩ := Int.eq_ofNat_of_zero_le (show 0 ≤ la by omega)
      have hfl : f < l := by omega
      have rl := ringN_len (f := f) (l := l) hfl
      have rl12 : (ringN f l).length ≤ 12 := by omega
      have nl : (natV (ringN f l)).length = (ringN f l).length := natV_len
      have ab : (if m < 0 then -m else m).toNat = m.natAbs ∧ (if m < 0 then -m else m) ≤ 64 ∧ 0 ≤ (if m < 0 then -m else m) := by split <;> omega
      walk_at "rd"
      refine rd_lring hfl (by omega) fun pr H2 hpr s2 h2 => ?_
      walk_at "rd"
      rename_i p3 H3 hp3 s3 h3
      refine ⟨by omega, by omega, ?_⟩
      rw [ab.1]
      refine for_r (fun j σ H4 => ∃ pf o4 o5 o6, σ = [some (.ref a), some (.ref pr), some (.int ((natV (ringN f l)).length : Nat)), some (.ref pf), o4, o5, o6] ∧ Same H H4 ∧ H4 pr = some (.lst (natV (ringN f l))) ∧ PairsR H4 pf (stepsN f l (decide (m < 0)) false j)) ⟨p3, _, _, _, rfl, s2.trans s3, s3 _ _ h2, [], h3, .nil⟩ ?_ ?_
      · rintro j σ H4 hj ⟨pf, o4, o5, o6, rfl, s4, h4r, h4p⟩
        have hj' : j < 64 := by omega
        walk_at "rd"
        refine ⟨by omega, by omega, comp_rp (fun i => (rg f l i, rg f l (i + 1))) ?_ ?_⟩
        · intro D i own H5 ts hD hi ho s5 h5 p5
          have hi' : i + 1 < (ringN f l).length := by rw [natV_len] at hi; omega
          obtain ⟨o, rfl⟩ : ∃ o, own = [o] := by
            match own, ho with
            | [o], _ => exact ⟨o, rfl⟩
          have x1 : atI (natV (ringN f l)) (0 + (i : Int)) = some (.int (rg f l i)) := atI_int (by omega) (natV_at (by rw [show ((0 : Int) + (i : Int)).toNat = i from by omega]; exact rg_at (by omega)))
          have x2 : atI (natV (ringN f l)) (0 + (i : Int) + 1) = some (.int (rg f l (i + 1))) := atI_int (by omega) (natV_at (by rw [show ((0 : Int) + (i : Int) + 1).toNat = i + 1 from by omega]; exact rg_at hi'))
          walk_at "rd"
          rename_i t6 H6 ht6 s6 h6
          exact yieldP [some (.int (0 + (i : Int)))] (by rw [natV_len]; omega) hi hD s5 h5 p5 (by walk_at "sm") h6 rfl rfl
        intro D5 H5 hD5 s5 h5
        rw [natV_len, show (((ringN f l).length : Int) - 1).toNat = (ringN f l).length - 1 from by omega] at h5
        walk_at "rd"
        have sn := stepsN_len (neg := decide (m < 0)) (ch := false) rl12 j
        refine ite2 (fun cc => ?_) (fun cc => ?_)
        · walk_at "rd"
          refine cat_pairs (K := K) (h4p.same s5) h5 (by rw [List.length_map, List.length_range]; omega) fun p7 H7 hp7 s7 h7 => ?_
          walk_at "rd"
          refine ⟨p7, _, _, _, rfl, s4.trans (s5.trans s7), s7 _ _ (s5 _ _ h4r), ?_⟩
          rw [stepsN_succ]
          unfold stepN
          rw [if_neg (by decide), if_pos cc]
          exact h7
        · obtain ⟨us, e5, q5⟩ := h5
          walk_at "rd"
          rename_i p6 H6 hp6 s6 h6
          have h6' : PairsR H6 p6 ((List.range ((ringN f l).length - 1)).map fun i => (rg f l i, rg f l (i + 1))).reverse := ⟨us.reverse, by rw [h6, List.map_reverse], pr_rev (pr_same s6 q5)⟩
          refine cat_pairs (K := K) (h4p.same (s5.trans s6)) h6' (by rw [List.length_reverse, List.length_map, List.length_range]; omega) fun p7 H7 hp7 s7 h7 => ?_
          walk_at "rd"
          refine ⟨p7, _, _, _, rfl, s4.trans (s5.trans (s6.trans s7)), s7 _ _ (s6 _ _ (s5 _ _ h4r)), ?_⟩
          rw [stepsN_succ]
          unfold stepN
          rw [if_neg (by decide), if_neg cc]
          exact h7
      · rintro σ H4 ⟨pf, o4, o5, o6, rfl, s4, h4r, h4p⟩
        walk_at "rd"
        exact k _ _ s4 h4p
    | chain fi la m =>
      simp only [Call.word, Call.nums, Call.Ok] at ha hok'
      obtain ⟨f, rfl⟩ := Int.eq_ofNat_of_zero_le hok'.1
      obtain ⟨l, rfl⟩ := Int.eq_ofNat_of_zero_le (show 0 ≤ la by omega)
      have hfl : f < l := by omega
      have rl := ringN_len (f := f) (l := l) hfl
      have rl12 : (ringN f l).length ≤ 12 := by omega
      have nl : (natV (ringN f l)).length = (ringN f l).length := natV_len
      have ab : (if m < 0 then -m else m).toNat = m.natAbs ∧ (if m < 0 then -m else m) ≤ 64 ∧ 0 ≤ (if m < 0 then -m else m) := by split <;> omega
      walk_at "rd"
      refine rd_lring hfl (by omega) fun pr H2 hpr s2 h2 => ?_
      walk_at "rd"
      rename_i p3 H3 hp3 s3 h3
      refine ⟨by omega, by omega, ?_⟩
      rw [ab.1]
      refine for_r (fun j σ H4 => ∃ pf o4 o5 o6, σ = [some (.ref a), some (.ref pr), some (.int ((natV (ringN f l)).length : Nat)), some (.ref pf), o4, o5, o6] ∧ Same H H4 ∧ H4 pr = some (.lst (natV (ringN f l))) ∧ PairsR H4 pf (stepsN f l (decide (m < 0)) true j)) ⟨p3, _, _, _, rfl, s2.trans s3, s3 _ _ h2, [], h3, .nil⟩ ?_ ?_
      · rintro j σ H4 hj ⟨pf, o4, o5, o6, rfl, s4, h4r, h4p⟩
        have hj' : j < 64 := by omega
        walk_at "rd"
        obtain ⟨bg, hbg⟩ : ∃ bg : Nat, (j + if decide (m < 0) = true then 1 else 0) % 2 = bg := ⟨_, rfl⟩
        have eb : ((0 : Int) + (j : Int) + (if decide (m < 0) = true then 1 else 0)) % 2 = (bg : Int) := by
          revert hbg
          split <;> omega
        have bg1 : bg < 2 := by omega
        rw [eb]
        refine ⟨_, _, _, rfl, by decide, by omega, by decide, small_two (by omega) (by omega) (by omega) (by omega), ?_⟩
        rw [show (Builtin.Range.rangeSize (bg : Int) ((natV (ringN f l)).length : Nat) 2).toNat = ((ringN f l).length - bg + 1) / 2 from by
          unfold Builtin.Range.rangeSize
          rw [if_pos (by decide), if_pos (by omega)]
          omega]
        refine comp_sp (fun i => (rg f l (bg + i * 2), rg f l ((bg + i * 2 + 1) % (ringN f l).length))) ?_ ?_
        · intro D i own H5 ts hD hi ho s5 h5 p5
          have hi' : bg + i * 2 < (ringN f l).length := by omega
          have hm' : (bg + i * 2 + 1) % (ringN f l).length < (ringN f l).length := Nat.mod_lt _ (by omega)
          obtain ⟨o, rfl⟩ : ∃ o, own = [o] := by
            match own, ho with
            | [o], _ => exact ⟨o, rfl⟩
          have x1 : atI (natV (ringN f l)) ((bg : Int) + (i : Int) * 2) = some (.int (rg f l (bg + i * 2))) := atI_int (by omega) (natV_at (by rw [show ((bg : Int) + (i : Int) * 2).toNat = bg + i * 2 from by omega]; exact rg_at hi'))
          have x2 : atI (natV (ringN f l)) (((bg : Int) + (i : Int) * 2 + 1) % (((natV (ringN f l)).length : Nat) : Int)) = some (.int (rg f l ((bg + i * 2 + 1) % (ringN f l).length))) := by
            have ec : ((bg : Int) + (i : Int) * 2 + 1) % (((natV (ringN f l)).length : Nat) : Int) = (((bg + i * 2 + 1) % (ringN f l).length : Nat) : Int) := by
              rw [nl, show ((bg : Int) + (i : Int) * 2 + 1) = ((bg + i * 2 + 1 : Nat) : Int) from by omega]
              rfl
            rw [ec]
            exact atI_nat (natV_at (rg_at hm'))
          walk_at "rd"
          rename_i t6 H6 ht6 s6 h6
          exact yieldP [some (.int ((bg : Int) + (i : Int) * 2))] (by omega) hi hD s5 h5 p5 (by walk_at "sm") h6 rfl rfl
        intro D5 H5 hD5 s5 h5
        have sn := stepsN_len (neg := decide (m < 0)) (ch := true) rl12 j
        walk_at "rd"
        refine cat_pairs (K := K) (h4p.same s5) h5 (by rw [List.length_map, List.length_range]; omega) fun p7 H7 hp7 s7 h7 => ?_
        walk_at "rd"
        refine ⟨p7, _, _, _, rfl, s4.trans (s5.trans s7), s7 _ _ (s5 _ _ h4r), ?_⟩
        rw [stepsN_succ]
        unfold stepN
        rw [if_pos rfl, hbg]
        exact h7
      · rintro σ H4 ⟨pf, o4, o5, o6, rfl, s4, h4r, h4p⟩
        walk_at "rd"
        exact k _ _ s4 h4p
end


def two (s : Nat) : List (Nat × Nat) := [(2 * s, 2 * s + 2), (2 * s + 1, 2 * s + 3)]
def Call.sw : Call → List (Nat × Nat)
  | .ring f l m => Call.rsw (.ring f l m)
  | .chain f l m => Call.rsw (.chain f l m)
  | .cross s => [(2 * s.toNat, 2 * s.toNat + 1)]
  | .pass s d => [(2 * s.toNat + d.toNat, 2 * s.toNat + 2 + d.toNat)]
  | .corner s d => [(2 * s.toNat + d.toNat, 2 * s.toNat + 3 - d.toNat)]
  | .cast f l => ((List.range (l.toNat - f.toNat)).map fun i => f.toNat + i).flatMap two
  | .lead f l => ((List.range (l.toNat - f.toNat)).map fun i => f.toNat + i).reverse.flatMap two
  | .stand _ => []
def spLSw : Sp := fun vs H Q _ => ∃ (n : Nat) (v : V) (c : Call), vs = [v] ∧ CallAt H v c ∧ spots n ∧ c.Ok n ∧ ∀ p H', Same H H' → PairsR H' p c.sw → Q (.ref p) H'
theorem rd_lsw {H : Hp} {Q : VK} {E : XK} {n : Nat} {v : V} {c : Call} (h : CallAt H v c) (h1 : spots n) (h2 : c.Ok n) (q : ∀ p H', Same H H' → PairsR H' p c.sw → Q (.ref p) H') : spLSw [v] H Q E := ⟨n, v, c, rfl, h, h1, h2, q⟩
theorem rangeV_nat (f n : Nat) : rangeV (f : Int) n = natV ((List.range n).map fun i => f + i) := by
  unfold rangeV natV
  rw [List.map_map]
  refine List.map_congr_left fun i _ => ?_
  show V.int _ = V.int _
  congr 1
theorem natV_rev {ns : List Nat} : (natV ns).reverse = natV ns.reverse := by unfold natV; rw [List.map_reverse]
theorem flat_len (qs : List Nat) : (qs.flatMap two).length = 2 * qs.length := by
  induction qs with
  | nil => rfl
  | cons q r ih => rw [List.flatMap_cons, List.length_append, ih, List.length_cons]; show 2 + _ = _; omega
section
variable {P : Program} {w : World} {K : PySem.W.Frag} {mg : Str → Option Value} {base : Heap}
theorem sc__law_swaps : FnScope ["_law_call_here", "_law_word", "_law_found", "_law_spots_here", "_law_spot"] ["_law_call_here"] (defScope s__law_swaps) := ⟨rfl, rfl, rfl, by decide +kernel, rfl, by decide +kernel, by decide +kernel⟩
theorem ok__law_swaps {f : Addr} {fd : FuncData} (F : Fun K "_law_swaps" "_law_swaps" s__law_swaps f fd) (T : Txt P w K mg)  (F__law_ring_swaps : FnAt P w K mg base "_law_ring_swaps" 2 spRSw) : FnOk P w K mg base CX0 (2 + 1) f fd ["_law_call_here"] spLSw := by
  refine F.ok sc__law_swaps (fun vs H Q E h => ?_) (fun cdv A outer s H vs Q E hr h => ?_)
  · obtain ⟨n, v, c, rfl, _⟩ := h
    rfl
  · obtain ⟨n, v, c, rfl, hca, hn, hok, k⟩ := h
    refine ⟨_, (pss_cons (ps_set (i := 1) sc__law_swaps.nd rfl (Or.inl rfl) (pe_ix ix_tup (pv 0) pe_int (fun _ _ => rfl)))
      (pss_cons (ps_if (pt_cmpR op_in_seq (pv 1) (pe_lst (pa_cons pe_str (pa_cons pe_str pa_nil))) rfl)
      (pss_one (ps_ret (pe_fn F__law_ring_swaps (hr.mono (by omega)) (pa_cons (pv 0) pa_nil))))
      pss_nil)
      (pss_cons (ps_if (pt_cmpR op_eq (pv 1) pe_str (nomark _))
      (pss_one (ps_ret (pe_lst (pa_cons (pe_tup (pa_cons (pe_op op_mul pe_int (pe_ix ix_tup (pv 0) pe_int (fun _ _ => rfl))) (pa_cons (pe_op op_add (pe_op op_mul pe_int (pe_ix ix_tup (pv 0) pe_int (fun _ _ => rfl))) pe_int) pa_nil))) pa_nil))))
      pss_nil)
      (pss_cons (ps_if (pt_cmpR op_eq (pv 1) pe_str (nomark _))
      (pss_one (ps_ret (pe_lst (pa_cons (pe_tup (pa_cons (pe_op op_add (pe_op op_mul pe_int (pe_ix ix_tup (pv 0) pe_int (fun _ _ => rfl))) (pe_ix ix_tup (pv 0) pe_int (fun _ _ => rfl))) (pa_cons (pe_op op_add (pe_op op_add (pe_op op_mul pe_int (pe_ix ix_tup (pv 0) pe_int (fun _ _ => rfl))) pe_int) (pe_ix ix_tup (pv 0) pe_int (fun _ _ => rfl))) pa_nil))) pa_nil))))
      pss_nil)
      (pss_cons (ps_if (pt_cmpR op_eq (pv 1) pe_str (nomark _))
      (pss_one (ps_ret (pe_lst (pa_cons (pe_tup (pa_cons (pe_op op_add (pe_op op_mul pe_int (pe_ix ix_tup (pv 0) pe_int (fun _ _ => rfl))) (pe_ix ix_tup (pv 0) pe_int (fun _ _ => rfl))) (pa_cons (pe_op op_sub (pe_op op_add (pe_op op_mul pe_int (pe_ix ix_tup (pv 0) pe_int (fun _ _ => rfl))) pe_int) (pe_ix ix_tup (pv 0) pe_int (fun _ _ => rfl))) pa_nil))) pa_nil))))
      pss_nil)
      (pss_cons (ps_set (i := 2) sc__law_swaps.nd rfl (Or.inl rfl) (pe_lst pa_nil))
      (pss_cons (ps_if (pt_cmpR op_in_seq (pv 1) (pe_lst (pa_cons pe_str (pa_cons pe_str pa_nil))) rfl)
      (pss_cons (ps_set (i := 3) sc__law_swaps.nd rfl (Or.inl rfl) (pe_callTy (cl_listR rfl) (by rfl) T.n_list bt_list (pa_cons (pe_callTy cl_rng (by rfl) T.n_range bt_range (pa_cons (pe_ix ix_tup (pv 0) pe_int (fun _ _ => rfl)) (pa_cons (pe_ix ix_tup (pv 0) pe_int (fun _ _ => rfl)) pa_nil))) pa_nil)))
      (pss_cons (ps_if (pt_cmpR op_eq (pv 1) pe_str (nomark _))
      (pss_one (ps_set (i := 3) sc__law_swaps.nd rfl (Or.inl rfl) (pe_rev (pv 3))))
      pss_nil)
      (pss_one (ps_for PassesOwn.never rfl (pi_list (pv 3)) (pg_name (i := 4) sc__law_swaps.nd rfl (Or.inl rfl))
      (pss_one (ps_set (i := 2) sc__law_swaps.nd rfl (Or.inl rfl) (pe_op op_cat (pv 2) (pe_lst (pa_cons (pe_tup (pa_cons (pe_op op_mul pe_int (pv 4)) (pa_cons (pe_op op_add (pe_op op_mul pe_int (pv 4)) pe_int) pa_nil))) (pa_cons (pe_tup (pa_cons (pe_op op_add (pe_op op_mul pe_int (pv 4)) pe_int) (pa_cons (pe_op op_add (pe_op op_mul pe_int (pv 4)) pe_int) pa_nil))) pa_nil))))))))))
      pss_nil)
      (pss_one (ps_ret (pv 2)))))))))), ?_⟩
    obtain ⟨n1, n2⟩ := id hn
    obtain ⟨a, rfl, ha⟩ := id hca
    have hok' := hok
    cases c with
    | ring fi la m =>
      simp only [Call.word, Call.nums, Call.Ok] at ha hok'
      walk_at "rd"
      refine rd_rsw (c := .ring fi la m) (by walk_at "ca") hn hok rfl fun p H2 s2 h2 => ?_
      exact k _ _ (by walk_at "sm") h2
    | chain fi la m =>
      simp only [Call.word, Call.nums, Call.Ok] at ha hok'
      walk_at "rd"
      refine rd_rsw (c := .chain fi la m) (by walk_at "ca") hn hok rfl fun p H2 s2 h2 => ?_
      exact k _ _ (by walk_at "sm") h2
    | cross sp =>
      simp only [Call.word, Call.nums, Call.Ok] at ha hok'
      obtain ⟨s, rfl⟩ := Int.eq_ofNat_of_zero_le hok'.1
      walk_at "rd"
      rename_i t5 H5 ht5 s5 h5 t7 H7 ht7 s7 h7
      refine k _ _ (by walk_at "sm") ⟨[t5], h7, .cons (s7 _ _ ?_) .nil⟩
      rw [h5]
      show _ = some (HO.tup [V.int ((2 * s : Nat) : Int), V.int ((2 * s + 1 : Nat) : Int)])
      rw [show ((2 * s : Nat) : Int) = 2 * (s : Int) from by omega, show ((2 * s + 1 : Nat) : Int) = 2 * (s : Int) + 1 from by omega]
    | pass sp d =>
      simp only [Call.word, Call.nums, Call.Ok] at ha hok'
      obtain ⟨s, rfl⟩ := Int.eq_ofNat_of_zero_le hok'.1
      obtain ⟨e, rfl⟩ := Int.eq_ofNat_of_zero_le (show 0 ≤ d by omega)
      walk_at "rd"
      rename_i t5 H5 ht5 s5 h5 t7 H7 ht7 s7 h7
      refine k _ _ (by walk_at "sm") ⟨[t5], h7, .cons (s7 _ _ ?_) .nil⟩
      rw [h5]
      show _ = some (HO.tup [V.int ((2 * s + e : Nat) : Int), V.int ((2 * s + 2 + e : Nat) : Int)])
      rw [show ((2 * s + e : Nat) : Int) = 2 * (s : Int) + (e : Int) from by omega, show ((2 * s + 2 + e : Nat) : Int) = 2 * (s : Int) + 2 + (e : Int) from by omega]
    | corner sp d =>
      simp only [Call.word, Call.nums, Call.Ok] at ha hok'
      obtain ⟨s, rfl⟩ := Int.eq_ofNat_of_zero_le hok'.1
      obtain ⟨e, rfl⟩ := Int.eq_ofNat_of_zero_le (show 0 ≤ d by omega)
      walk_at "rd"
      rename_i t5 H5 ht5 s5 h5 t7 H7 ht7 s7 h7
      refine k _ _ (by walk_at "sm") ⟨[t5], h7, .cons (s7 _ _ ?_) .nil⟩
      rw [h5]
      show _ = some (HO.tup [V.int ((2 * s + e : Nat) : Int), V.int ((2 * s + 3 - e : Nat) : Int)])
      rw [show ((2 * s + e : Nat) : Int) = 2 * (s : Int) + (e : Int) from by omega, show ((2 * s + 3 - e : Nat) : Int) = 2 * (s : Int) + 3 - (e : Int) from by omega]
    | cast fi la =>
      simp only [Call.word, Call.nums, Call.Ok] at ha hok'
      obtain ⟨f, rfl⟩ := Int.eq_ofNat_of_zero_le hok'.1
      obtain ⟨l, rfl⟩ := Int.eq_ofNat_of_zero_le (show 0 ≤ la by omega)
      walk_at "rd"
      rename_i p1 H1 hp1 s1 e1 pf0 H2 hp2 s2 e2 p3 H3 hp3 s3 e3 pr H4 hp4 s4 e4 ps H5 hp5 s5 hps
      rw [show ((l : Int) - (f : Int)).toNat = l - f from by omega, rangeV_nat] at hps
      obtain ⟨qs, hqs⟩ : ∃ qs, ((List.range (l - f)).map fun i => f + i) = qs := ⟨_, rfl⟩
      rw [hqs] at hps
      have lq : qs.length ≤ 6 := by rw [← hqs]; simp; omega
      refine ⟨_, rfl, ⟨_, SqL.of hps⟩, for_l (xs := natV qs) (fun i σ H4 => ∃ pf o4, σ = [some (.ref a), some (.str "cast"), some (.ref pf), some (.ref ps), o4] ∧ Same H H4 ∧ H4 ps = some (.lst (natV qs)) ∧ PairsR H4 pf ((qs.take i).flatMap two)) ⟨pf0, _, rfl, by walk_at "sm", hps, [], by walk_at "hp", .nil⟩ (fun i σ H4 _ ⟨_, _, _, _, z, _⟩ => SqL.of z) ?_ ?_⟩
      · rintro i x σ H4 hx ⟨pf, o4, rfl, s4, h4s, h4p⟩
        have hi : i < qs.length := by have := (List.getElem?_eq_some_iff.mp hx).1; rw [natV_len] at this; exact this
        obtain ⟨q, hq⟩ : ∃ q, qs[i]? = some q := ⟨qs[i], List.getElem?_eq_getElem hi⟩
        rw [natV_at hq] at hx
        cases hx
        walk_at "rd"
        rename_i t5 H5 ht5 s5 h5 t6 H6 ht6 s6 h6 t7 H7 ht7 s7 h7
        have h7' : PairsR H7 t7 (two q) := ⟨[t5, t6], h7, .cons (s7 _ _ (s6 _ _ (by show H5 t5 = _; rw [h5]; rfl))) (.cons (s7 _ _ (by show H6 t6 = _; rw [h6]; rfl)) .nil)⟩
        refine cat_pairs (K := K) (h4p.same (s5.trans (s6.trans s7))) h7' (by rw [flat_len, List.length_take]; show _ + 2 ≤ 1000; omega) fun p8 H8 hp8 s8 h8 => ?_
        walk_at "rd"
        refine ⟨p8, _, rfl, s4.trans (s5.trans (s6.trans (s7.trans s8))), s8 _ _ (s7 _ _ (s6 _ _ (s5 _ _ h4s))), ?_⟩
        rw [List.take_succ, hq, List.flatMap_append]
        simpa using h8
      · rintro σ H4 ⟨pf, o4, rfl, s4, h4s, h4p⟩
        walk_at "rd"
        rw [natV_len, List.take_length] at h4p
        rw [← hqs] at h4p
        exact k _ _ s4 h4p
    | lead fi la =>
      simp only [Call.word, Call.nums, Call.Ok] at ha hok'
      obtain ⟨f, rfl⟩ := Int.eq_ofNat_of_zero_le hok'.1
      obtain ⟨l, rfl⟩ := Int.eq_ofNat_of_zero_le (show 0 ≤ la by omega)
      walk_at "rd"
      rename_i p1 H1 hp1 s1 e1 pf0 H2 hp2 s2 e2 p3 H3 hp3 s3 e3 pr H4 hp4 s4 e4 pq H5 hp5 s5 e5 ps H6 hp6 s6 hps
      rw [show ((l : Int) - (f : Int)).toNat = l - f from by omega, rangeV_nat, natV_rev] at hps
      obtain ⟨qs, hqs⟩ : ∃ qs, ((List.range (l - f)).map fun i => f + i).reverse = qs := ⟨_, rfl⟩
      rw [hqs] at hps
      have lq : qs.length ≤ 6 := by rw [← hqs]; simp; omega
      refine ⟨_, rfl, ⟨_, SqL.of hps⟩, for_l (xs := natV qs) (fun i σ H4 => ∃ pf o4, σ = [some (.ref a), some (.str "lead"), some (.ref pf), some (.ref ps), o4] ∧ Same H H4 ∧ H4 ps = some (.lst (natV qs)) ∧ PairsR H4 pf ((qs.take i).flatMap two)) ⟨pf0, _, rfl, by walk_at "sm", hps, [], by walk_at "hp", .nil⟩ (fun i σ H4 _ ⟨_, _, _, _, z, _⟩ => SqL.of z) ?_ ?_⟩
      · rintro i x σ H4 hx ⟨pf, o4, rfl, s4, h4s, h4p⟩
        have hi : i < qs.length := by have := (List.getElem?_eq_some_iff.mp hx).1; rw [natV_len] at this; exact this
        obtain ⟨q, hq⟩ : ∃ q, qs[i]? = some q := ⟨qs[i], List.getElem?_eq_getElem hi⟩
        rw [natV_at hq] at hx
        cases hx
        walk_at "rd"
        rename_i t5 H5 ht5 s5 h5 t6 H6 ht6 s6 h6 t7 H7 ht7 s7 h7
        have h7' : PairsR H7 t7 (two q) := ⟨[t5, t6], h7, .cons (s7 _ _ (s6 _ _ (by show H5 t5 = _; rw [h5]; rfl))) (.cons (s7 _ _ (by show H6 t6 = _; rw [h6]; rfl)) .nil)⟩
        refine cat_pairs (K := K) (h4p.same (s5.trans (s6.trans s7))) h7' (by rw [flat_len, List.length_take]; show _ + 2 ≤ 1000; omega) fun p8 H8 hp8 s8 h8 => ?_
        walk_at "rd"
        refine ⟨p8, _, rfl, s4.trans (s5.trans (s6.trans (s7.trans s8))), s8 _ _ (s7 _ _ (s6 _ _ (s5 _ _ h4s))), ?_⟩
        rw [List.take_succ, hq, List.flatMap_append]
        simpa using h8
      · rintro σ H4 ⟨pf, o4, rfl, s4, h4s, h4p⟩
        walk_at "rd"
        rw [natV_len, List.take_length] at h4p
        rw [← hqs] at h4p
        exact k _ _ s4 h4p
    | stand m =>
      simp only [Call.word, Call.nums, Call.Ok] at ha hok'
      walk_at "rd"
      exact k _ _ (by walk_at "sm") ⟨[], by walk_at "hp", .nil⟩
end


def swapN (r : List Nat) (q : Nat × Nat) : List Nat := (r.set q.1 (r.getD q.2 0)).set q.2 (r.getD q.1 0)
def CallOk (n : Nat) (H : Hp) (v : V) (c : Call) : Prop := CallAt H v c ∧ c.Ok n
section
variable {P : Program} {w : World} {K : PySem.W.Frag} {mg : Str → Option Value} {base : Heap}
end


theorem paired_ok {n : Nat} {H : Hp} : ∀ {xs : List V} {cs : List Call}, Paired (CallOk n H) xs cs → ∀ c ∈ cs, c.Ok n
  | _, _, .nil, c, h => by simp at h
  | _, _, .cons r t, c, h => by
    rcases List.mem_cons.mp h with e | e
    · rw [e]; exact r.2
    · exact paired_ok t c e
section
variable {P : Program} {w : World} {K : PySem.W.Frag} {mg : Str → Option Value} {base : Heap}
end


def st (n f l : Nat) (neg ch : Bool) (k : Nat) : List Nat := (stepsN f l neg ch k).foldl swapN (stillN n)
theorem rd_taken {H : Hp} {Q : VK} {E : XK} {n : Int} {v : V} {c : Call} (h : CallAt H v c) (h1 : spots n) (h2 : c.Ok n) (q : ∀ p H', H p = none → Same H H' → H' p = some (.lst c.takes) → Q (.ref p) H') : spTaken [.int n, v] H Q E := ⟨n, v, c, rfl, h, h1, h2, q⟩
def Call.tkI : Call → List Int
  | .ring f l _ => (List.range (2 * l + 2 - 2 * f).toNat).map fun (i : Nat) => 2 * f + (i : Int)
  | .chain f l _ => (List.range (2 * l + 2 - 2 * f).toNat).map fun (i : Nat) => 2 * f + (i : Int)
  | .cast f l => (List.range (2 * l + 2 - 2 * f).toNat).map fun (i : Nat) => 2 * f + (i : Int)
  | .lead f l => (List.range (2 * l + 2 - 2 * f).toNat).map fun (i : Nat) => 2 * f + (i : Int)
  | .cross s => [2 * s, 2 * s + 1]
  | .pass s d => [2 * s + d, 2 * s + 2 + d]
  | .corner s d => [2 * s + d, 2 * s + 3 - d]
  | .stand _ => []
theorem rangeV_ints (lo : Int) (n : Nat) : rangeV lo n = ((List.range n).map fun (i : Nat) => lo + (i : Int)).map V.int := by unfold rangeV; rw [List.map_map]; rfl
theorem takes_eq {c : Call} : c.takes = c.tkI.map V.int := by
  cases c with
  | ring f l m => exact rangeV_ints _ _
  | chain f l m => exact rangeV_ints _ _
  | cast f l => exact rangeV_ints _ _
  | lead f l => exact rangeV_ints _ _
  | _ => rfl
theorem tk_len {c : Call} {n : Int} (hn : spots n) (h : c.Ok n) : c.tkI.length ≤ 12 := by
  obtain ⟨n1, n2⟩ := hn
  cases c with
  | ring f l m => simp only [Call.Ok] at h; simp only [Call.tkI]; rw [List.length_map, List.length_range]; omega
  | chain f l m => simp only [Call.Ok] at h; simp only [Call.tkI]; rw [List.length_map, List.length_range]; omega
  | cast f l => simp only [Call.Ok] at h; simp only [Call.tkI]; rw [List.length_map, List.length_range]; omega
  | lead f l => simp only [Call.Ok] at h; simp only [Call.tkI]; rw [List.length_map, List.length_range]; omega
  | cross s => show 2 ≤ 12; decide
  | pass s d => show 2 ≤ 12; decide
  | corner s d => show 2 ≤ 12; decide
  | stand m => show 0 ≤ 12; decide
theorem nd_rng (f : Int) (n : Nat) : ((List.range n).map fun (i : Nat) => 2 * f + (i : Int)).Nodup := by
  unfold List.Nodup
  rw [List.pairwise_map]
  exact List.Pairwise.imp (fun h => by omega) (List.pairwise_lt_range (n := n))
theorem tk_nd {c : Call} {n : Int} (h : c.Ok n) : c.tkI.Nodup := by
  cases c with
  | ring f l m => exact nd_rng _ _
  | chain f l m => exact nd_rng _ _
  | cast f l => exact nd_rng _ _
  | lead f l => exact nd_rng _ _
  | cross s => simp only [Call.tkI]; simp; omega
  | pass s d => simp only [Call.tkI]; simp; omega
  | corner s d => simp only [Call.Ok] at h; simp only [Call.tkI]; simp; omega
  | stand m => exact List.nodup_nil
structure BarOk (n : Int) (cs : List Call) : Prop where
  one : cs ≠ []
  four : cs.length ≤ 4
  ok : ∀ c ∈ cs, c.Ok n
  apart : cs.Pairwise fun a b => ∀ z ∈ a.tkI, ∀ y ∈ b.tkI, z ≠ y
theorem bar_nd {n : Int} {cs : List Call} (h : BarOk n cs) : (cs.flatMap Call.tkI).Nodup := List.pairwise_flatMap.mpr ⟨fun c hc => tk_nd (h.ok c hc), h.apart⟩
theorem bar_len {n : Int} {cs : List Call} (hn : spots n) (h : ∀ c ∈ cs, c.Ok n) : (cs.flatMap Call.tkI).length ≤ 12 * cs.length := by
  induction cs with
  | nil => simp
  | cons c r ih =>
    rw [List.flatMap_cons, List.length_append, List.length_cons]
    have := tk_len hn (h c (by simp))
    have := ih fun d hd => h d (by simp [hd])
    omega
def Calls (n : Nat) (H : Hp) (a : Addr) (cs : List Call) : Prop := ∃ xs, H a = some (.lst xs) ∧ Paired (CallOk n H) xs cs
theorem callOk_mono {n : Nat} {H H' : Hp} (s : Same H H') {xs : List V} {cs : List Call} (h : Paired (CallOk n H) xs cs) : Paired (CallOk n H') xs cs := Paired.mapP h fun v c e => ⟨e.1.same s, e.2⟩
theorem Calls.same {n : Nat} {H H' : Hp} {a : Addr} {cs : List Call} (h : Calls n H a cs) (s : Same H H') : Calls n H' a cs := by
  obtain ⟨xs, e, p⟩ := h; exact ⟨xs, s _ _ e, callOk_mono s p⟩
theorem callStab (n : Nat) : Stab (CallOk n) where
  mono := fun s h => ⟨h.1.same s, h.2⟩
  rf := fun h => by obtain ⟨⟨a, e, _⟩, _⟩ := h; exact ⟨a, e⟩
  wr := fun _ hD h => by
    obtain ⟨⟨a, e, ha⟩, ok⟩ := h
    refine ⟨⟨a, e, ?_⟩, ok⟩
    rw [upd_ne (fun z => by rw [z, hD] at ha; cases ha)]; exact ha
def spLookBar : Sp := fun vs H Q _ => ∃ (n : Nat) (a : Addr) (cs : List Call), vs = [.int n, .ref a] ∧ spots n ∧ Calls n H a cs ∧ BarOk n cs ∧ ∀ H', Same H H' → Q .non H'
theorem rd_lookbar {H : Hp} {Q : VK} {E : XK} {n : Nat} {a : Addr} {cs : List Call} (hn : spots n) (h : Calls n H a cs) (hb : BarOk n cs) (q : ∀ H', Same H H' → Q .non H') : spLookBar [.int n, .ref a] H Q E := ⟨n, a, cs, rfl, hn, h, hb, q⟩
local macro_rules | `(tactic| walk_at "rd1") => `(tactic| first | with_reducible refine i_forZ ?_ | with_reducible refine i_comp2L ?_)
section
variable {P : Program} {w : World} {K : PySem.W.Frag} {mg : Str → Option Value} {base : Heap}
theorem sc_taken : FnScope ["spots", "call", "word"] ["spots", "call"] (defScope s_taken) := ⟨rfl, rfl, rfl, by decide +kernel, rfl, by decide +kernel, by decide +kernel⟩
theorem ok_taken {f : Addr} {fd : FuncData} (F : Fun K "taken" "taken" s_taken f fd) (T : Txt P w K mg)  (F_look_call : FnAt P w K mg base "look_call" 3 spCall) (F_exchange_places : FnAt P w K mg base "exchange_places" 1 spExch) : FnOk P w K mg base CX0 (3 + 1) f fd ["spots", "call"] spTaken := by
  refine F.ok sc_taken (fun vs H Q E h => ?_) (fun cdv A outer s H vs Q E hr h => ?_)
  · obtain ⟨n, v, c, rfl, _⟩ := h
    rfl
  · obtain ⟨n, v, c, rfl, hca, hns, hok, k⟩ := h
    refine ⟨_, (pss_cons (ps_expr (pe_fn F_look_call (hr.mono (by omega)) (pa_cons (pv 0) (pa_cons (pv 1) pa_nil))))
      (pss_cons (ps_set (i := 2) sc_taken.nd rfl (Or.inl rfl) (pe_ix ix_tup (pv 1) pe_int (fun _ _ => rfl)))
      (pss_cons (ps_if (pt_cmpR op_eq (pv 2) pe_str (nomark _))
      (pss_one (ps_ret (pe_lst pa_nil)))
      pss_nil)
      (pss_cons (ps_if (pt_cmpR op_in_seq (pv 2) (pe_tup (pa_cons pe_str (pa_cons pe_str (pa_cons pe_str pa_nil)))) rfl)
      (pss_one (ps_ret (pe_fn F_exchange_places (hr.mono (by omega)) (pa_cons (pv 1) pa_nil))))
      pss_nil)
      (pss_one (ps_ret (pe_callTy (cl_listR rfl) (by rfl) T.n_list bt_list (pa_cons (pe_callTy cl_rng (by rfl) T.n_range bt_range (pa_cons (pe_op op_mul pe_int (pe_ix ix_tup (pv 1) pe_int (fun _ _ => rfl))) (pa_cons (pe_op op_add (pe_op op_mul pe_int (pe_ix ix_tup (pv 1) pe_int (fun _ _ => rfl))) pe_int) pa_nil))) pa_nil)))))))), ?_⟩
    obtain ⟨a, rfl, ha⟩ := id hca
    have hc := hok
    obtain ⟨n1, n2⟩ := id hns
    cases c with
    | ring fi la m =>
      simp only [Call.word, Call.nums, Call.Ok] at ha hc
      walk_at "rd"
      exact k _ _ (by walk_at "fr") (by walk_at "sm") (by assumption)
    | chain fi la m =>
      simp only [Call.word, Call.nums, Call.Ok] at ha hc
      walk_at "rd"
      exact k _ _ (by walk_at "fr") (by walk_at "sm") (by assumption)
    | cross sp =>
      simp only [Call.word, Call.nums, Call.Ok] at ha hc
      walk_at "rd"
      exact k _ _ (by walk_at "fr") (by walk_at "sm") (by assumption)
    | pass sp d =>
      simp only [Call.word, Call.nums, Call.Ok] at ha hc
      walk_at "rd"
      exact k _ _ (by walk_at "fr") (by walk_at "sm") (by assumption)
    | corner sp d =>
      simp only [Call.word, Call.nums, Call.Ok] at ha hc
      walk_at "rd"
      exact k _ _ (by walk_at "fr") (by walk_at "sm") (by assumption)
    | cast fi la =>
      simp only [Call.word, Call.nums, Call.Ok] at ha hc
      walk_at "rd"
      exact k _ _ (by walk_at "fr") (by walk_at "sm") (by assumption)
    | lead fi la =>
      simp only [Call.word, Call.nums, Call.Ok] at ha hc
      walk_at "rd"
      exact k _ _ (by walk_at "fr") (by walk_at "sm") (by assumption)
    | stand m =>
      simp only [Call.word, Call.nums, Call.Ok] at ha hc
      walk_at "rd"
      exact k _ _ (by walk_at "fr") (by walk_at "sm") (by assumption)
end


theorem flat_ix (cs : List Call) : (List.range cs.length).flatMap (fun i => ((cs[i]?).map Call.takes).getD []) = (cs.flatMap Call.tkI).map V.int := by
  have key : ∀ (n : Nat), n ≤ cs.length → (List.range n).flatMap (fun i => ((cs[i]?).map Call.takes).getD []) = ((cs.take n).flatMap Call.tkI).map V.int := by
    intro n
    induction n with
    | zero => intro _; simp
    | succ n ih =>
      intro h
      rw [List.range_succ, List.flatMap_append, ih (by omega), List.take_succ, List.flatMap_append, List.map_append, List.getElem?_eq_getElem (by omega : n < cs.length)]
      simp only [List.flatMap_cons, List.flatMap_nil, List.append_nil, Option.toList_some]
      rw [List.getElem?_eq_getElem (by omega : n < cs.length)]
      show _ ++ Call.takes _ = _
      rw [takes_eq]
  have := key cs.length (Nat.le_refl _)
  rwa [List.take_length] at this
theorem cut_from1 (ns : List Int) : cutV (ns.map V.int) (some 1) none = (ns.drop 1).map V.int := by
  unfold cutV HT.sIx
  dsimp only
  rw [if_neg (by omega), List.map_drop, List.length_map]
  rw [List.take_of_length_le (by rw [List.length_drop, List.length_map]; omega)]
  by_cases z : 1 ≤ ns.length
  · rw [show (1 : Int).toNat = 1 from rfl, Nat.min_eq_left z]
  · rw [List.drop_eq_nil_of_le (by rw [List.length_map]; omega), List.drop_eq_nil_of_le (by rw [List.length_map]; omega)]
section
variable {P : Program} {w : World} {K : PySem.W.Frag} {mg : Str → Option Value} {base : Heap}
theorem sc_look_bar : FnScope ["spots", "bar", "places", "place", "further"] ["spots", "bar"] (defScope s_look_bar) := ⟨rfl, rfl, rfl, by decide +kernel, rfl, by decide +kernel, by decide +kernel⟩
theorem ok_look_bar {f : Addr} {fd : FuncData} (F : Fun K "look_bar" "look_bar" s_look_bar f fd) (T : Txt P w K mg)  (F_look_spots : FnAt P w K mg base "look_spots" 1 spLook) (F_taken : FnAt P w K mg base "taken" 4 spTaken) : FnOk P w K mg base CX0 (4 + 1) f fd ["spots", "bar"] spLookBar := by
  refine F.ok sc_look_bar (fun vs H Q E h => ?_) (fun cdv A outer s H vs Q E hr h => ?_)
  · obtain ⟨n, a, cs, rfl, _⟩ := h
    rfl
  · obtain ⟨n, a, cs, rfl, hn, hcs, hb, k⟩ := h
    refine ⟨_, (pss_cons (ps_expr (pe_fn F_look_spots (hr.mono (by omega)) (pa_cons (pv 0) pa_nil)))
      (pss_cons (ps_if (pt_not (pt_chain op_le op_le pe_int (pe_callB cl_len (by rfl) T.n_len PySem.boot_len (pa_cons (pv 1) pa_nil)) (pe_globI T.c_MOST_CALLS)))
      (pss_one ps_never)
      pss_nil)
      (pss_cons (ps_set (i := 2) sc_look_bar.nd rfl (Or.inl rfl) (pe_callB cl_sort (by rfl) T.n_sorted bt_sorted (pa_cons (pe_comp2 (N := ["call", "place", "spots"]) (k := 2) (caps := [0]) rfl (compOk_of ["spots", "bar", "places", "place", "further"] (defScope s_look_bar).names (by decide +kernel)) (pi_list (pv 1)) (fun _ _ _ _ => (pg_name (i := 0) (show List.Nodup (["call", "place", "spots"] : List Str) by decide +kernel) rfl (Or.inl rfl))) (fun _ _ _ _ => pcs_nil) (fun _ _ _ _ => emits rfl rfl (pi_listK (K := K) rfl (pe_fn F_taken (hr.mono (by omega)) (pa_cons (pv 2) (pa_cons (pv 0) pa_nil)))) (pg_name (i := 1) (show List.Nodup (["call", "place", "spots"] : List Str) by decide +kernel) rfl (Or.inl rfl)) pcs_nil (pv 1)) (fun _ _ _ _ _ => rfl)) pa_nil)))
      (pss_one (ps_for PassesOwn.never rfl (pi_zip rfl T.n_zip (pa_cons (pv 2) (pa_cons (pe_slice sl_list (pv 2) (po_some pe_int) po_none) pa_nil))) (pg_tup rfl (pgs_cons (pg_name (i := 3) sc_look_bar.nd rfl (Or.inl rfl)) (pgs_cons (pg_name (i := 4) sc_look_bar.nd rfl (Or.inl rfl)) pgs_nil)))
      (pss_one (ps_if (pt_cmpR op_eq (pv 3) (pv 4) (nomark _))
      (pss_one ps_never)
      pss_nil))))))), ?_⟩
    obtain ⟨n1, n2⟩ := id hn
    obtain ⟨xs, ha, hp⟩ := hcs
    have lx : xs.length = cs.length := hp.length
    have l1 : 1 ≤ cs.length := List.length_pos_iff.mpr hb.one
    have l4 := hb.four
    walk_at "rd"
    refine ⟨_, rfl, ⟨_, SqL.of ha⟩, flat_new (fun i => ((cs[i]?).map Call.takes).getD []) ha (by omega) (fun i hi => ?_) (fun i x o1 H' R hx s q => ?_) fun D H1 hD s1 h1 => ?_⟩
    · rw [List.getElem?_eq_getElem (by omega)]
      show (Call.takes _).length ≤ 30
      rw [takes_eq, List.length_map]
      have := tk_len hn (hb.ok _ (List.getElem_mem (by omega : i < cs.length)))
      omega
    · obtain ⟨v, c, ev, ec, hca, hok⟩ := paired_at hp (List.getElem?_eq_some_iff.mp hx).1
      rw [hx] at ev
      cases ev
      walk_at "rd"
      refine rd_taken (hca.same s) hn hok fun p H2 hp2 s2 h2 => ?_
      exact q p H2 hp2 s2 (by rw [h2, ec]; rfl)
    have ef : (List.range xs.length).flatMap (fun i => ((cs[i]?).map Call.takes).getD []) = (cs.flatMap Call.tkI).map V.int := by
      rw [lx]
      exact flat_ix cs
    rw [ef] at h1
    walk_at "rd"
    refine i_sort (cs.flatMap Call.tkI) h1 (by have := bar_len hn hb.ok; omega) fun ns' l H2 pm pw hl2 s2 h2 => ?_
    have nd : ns'.Nodup := pm.nodup_iff.mpr (bar_nd hb)
    walk_at "rd"
    rename_i p3 H3 hp3 s3 h3
    rw [cut_from1 ns'] at h3
    refine ⟨_, _, rfl, ⟨_, SqL.of (s3 _ _ h2)⟩, ⟨_, SqL.of h3⟩, for_z (xs := ns'.map V.int) (ys := (ns'.drop 1).map V.int) (by rw [List.length_map, List.length_map, List.length_drop]; omega) (fun i σ H4 => ∃ o3 o4, σ = [some (.int n), some (.ref a), some (.ref l), o3, o4] ∧ Same H H4 ∧ H4 l = some (.lst (ns'.map V.int)) ∧ H4 p3 = some (.lst ((ns'.drop 1).map V.int))) ⟨_, _, rfl, s1.trans (s2.trans s3), s3 _ _ h2, h3⟩ (fun i σ H4 _ ⟨_, _, _, _, z1, z2⟩ => ⟨SqL.of z1, SqL.of z2⟩) ?_ ?_⟩
    · rintro i x y σ H4 t H5 hx hy ⟨o3, o4, rfl, s4, h4l, h4p⟩ ht s5 h5
      rw [List.getElem?_map] at hx hy
      rw [List.getElem?_drop] at hy
      cases e1 : ns'[i]? with
      | none => rw [e1] at hx; cases hx
      | some u =>
        cases e2 : ns'[1 + i]? with
        | none => rw [e2] at hy; cases hy
        | some w' =>
          rw [e1] at hx
          rw [e2] at hy
          cases hx
          cases hy
          have uw : ¬ u = w' := fun z => by
            obtain ⟨i1, g1⟩ := List.getElem?_eq_some_iff.mp e1
            obtain ⟨i2, g2⟩ := List.getElem?_eq_some_iff.mp e2
            have := (List.getElem_inj nd (h₀ := i1) (h₁ := i2)).mp (by rw [g1, g2, z])
            omega
          walk_at "rd"
          refine ite2 (fun cc => ?_) (fun cc => ?_)
          · exact absurd (V.int.inj (of_decide_eq_true cc)) uw
          · walk_at "rd"
            exact ⟨_, _, rfl, s4.trans s5, s5 _ _ h4l, s5 _ _ h4p⟩
    · rintro σ H4 ⟨o3, o4, rfl, s4, h4l, h4p⟩
      walk_at "rd"
      exact k _ s4
end


theorem i_ixAny {K : PySem.W.Frag} {H : Hp} {Q : VK} {p : Addr} {xs : List V} {i : Int} (h : H p = some (.lst xs)) (h0 : 0 ≤ i) (h1 : i < xs.length) (q : ∀ v, v ∈ xs → Q v H) : rIxL K (.ref p) (.int i) H Q := by
  obtain ⟨j, rfl⟩ := Int.eq_ofNat_of_zero_le h0
  have hj : j < xs.length := by omega
  exact ⟨p, xs, _, xs[j], rfl, rfl, SqL.of h, atI_nat (List.getElem?_eq_getElem hj), q _ (List.getElem_mem hj)⟩
def spSpots : Sp := fun vs H Q _ => ∃ d, vs = [.int d] ∧ ∀ s H', spots s → Same H H' → Q (.int s) H'
def spMk : Sp := fun vs H Q _ => ∃ (a : Addr) (ms : List Int) (s : Int), vs = [.ref a, .int s] ∧ H a = some (.lst (ms.map V.int)) ∧ 4 ≤ ms.length ∧ spots s ∧ ∀ v c H', Same H H' → CallAt H' v c → c.Ok s → Q v H'
def Call.tk : Call → List V
  | .cross s => [.int (2 * s), .int (2 * s + 1)] | .pass s d => [.int (2 * s + d), .int (2 * s + 2 + d)] | .corner s d => [.int (2 * s + d), .int (2 * s + 3 - d)] | _ => []
theorem cut_from (ns : List Int) {n : Int} (h : 0 ≤ n) : cutV (ns.map V.int) (some n) none = (ns.drop n.toNat).map V.int := by
  unfold cutV HT.sIx
  dsimp only
  rw [if_neg (by omega), List.map_drop, List.length_map]
  rw [List.take_of_length_le (by rw [List.length_drop, List.length_map]; omega)]
  by_cases z : n.toNat ≤ ns.length
  · rw [Nat.min_eq_left z]
  · rw [List.drop_eq_nil_of_le (by rw [List.length_map]; omega), List.drop_eq_nil_of_le (by rw [List.length_map]; omega)]
theorem rd_spots {H : Hp} {Q : VK} {E : XK} {d : Int} (q : ∀ s H', spots s → Same H H' → Q (.int s) H') : spSpots [.int d] H Q E := ⟨d, rfl, q⟩
theorem rd_mk {H : Hp} {Q : VK} {E : XK} {a : Addr} {ms : List Int} {s : Int} (h : H a = some (.lst (ms.map V.int))) (l : 4 ≤ ms.length) (hs : spots s) (q : ∀ v c H', Same H H' → CallAt H' v c → c.Ok s → Q v H') : spMk [.ref a, .int s] H Q E := ⟨a, ms, s, rfl, h, l, hs, q⟩
theorem rd_num {K : PySem.W.Frag} {H : Hp} {Q : VK} {E : XK} {a : Addr} {ns : List Int} {n : Int} (h : SqL K H a (ns.map V.int)) (h0 : 0 ≤ n) (h1 : n ≤ 1000) (q : ∀ p H' (ms : List Int), Same H H' → H' p = some (.lst (ms.map V.int)) → (ms.length : Int) = n → Sm ms → Q (.ref p) H') : spNum K [.ref a, .int n] H Q E := ⟨a, ns, n, rfl, h, h0, h1, q⟩
section
variable {P : Program} {w : World} {K : PySem.W.Frag} {mg : Str → Option Value} {base : Heap}
end


def Apart (a b : Call) : Prop := ∀ z ∈ a.tkI, ∀ y ∈ b.tkI, z ≠ y
theorem den_call {H : Hp} {k : Nat} {v : V} {c : Call} (h : CallAt H v c) : Den H (k + 2) (.tup (.str c.word :: c.nums.map fun x => match x with | .int i => D.int i | _ => .non)) v := by
  obtain ⟨a, rfl, h⟩ := h
  cases c with
  | ring f l m => exact ⟨a, _, rfl, h, by show 4 ≤ 1000; decide, .cons rfl (.cons rfl (.cons rfl (.cons rfl .nil)))⟩
  | chain f l m => exact ⟨a, _, rfl, h, by show 4 ≤ 1000; decide, .cons rfl (.cons rfl (.cons rfl (.cons rfl .nil)))⟩
  | cross s => exact ⟨a, _, rfl, h, by show 2 ≤ 1000; decide, .cons rfl (.cons rfl .nil)⟩
  | pass s d => exact ⟨a, _, rfl, h, by show 3 ≤ 1000; decide, .cons rfl (.cons rfl (.cons rfl .nil))⟩
  | corner s d => exact ⟨a, _, rfl, h, by show 3 ≤ 1000; decide, .cons rfl (.cons rfl (.cons rfl .nil))⟩
  | cast f l => exact ⟨a, _, rfl, h, by show 3 ≤ 1000; decide, .cons rfl (.cons rfl (.cons rfl .nil))⟩
  | lead f l => exact ⟨a, _, rfl, h, by show 3 ≤ 1000; decide, .cons rfl (.cons rfl (.cons rfl .nil))⟩
  | stand m => exact ⟨a, _, rfl, h, by show 2 ≤ 1000; decide, .cons rfl (.cons rfl .nil)⟩
def Call.den (c : Call) : D := .tup (.str c.word :: c.nums.map fun x => match x with | .int i => D.int i | _ => .non)
theorem call_ok (c : Call) : c.den.ok = true := by cases c <;> (simp only [Call.den, Call.word, Call.nums, List.map, D.ok, D.oks]; decide +kernel)
theorem calls_oks : ∀ cs : List Call, D.oks (cs.map Call.den) = true
  | [] => rfl
  | c :: r => by rw [List.map_cons, D.oks, call_ok, calls_oks r]; rfl
theorem den_calls {n : Nat} {H : Hp} {k : Nat} {p : Addr} {cs : List Call} (h : Calls n H p cs) (l : cs.length ≤ 1000) : Den H (k + 3) (.lst (cs.map Call.den)) (.ref p) := by
  obtain ⟨xs, hp, pr⟩ := h
  refine ⟨p, xs, rfl, hp, by rw [List.length_map]; exact l, ?_⟩
  clear hp l
  induction pr with
  | nil => exact .nil
  | cons r t ih => exact .cons (den_call r.1) ih
theorem in_ints {z : Int} {ns : List Int} : inV (.int z) (ns.map V.int) = decide (z ∈ ns) := by
  induction ns with
  | nil => rfl
  | cons x r ih =>
    rw [List.map_cons]
    unfold inV at ih ⊢
    rw [List.any_cons, ih]
    rw [Bool.eq_iff_iff]
    have e : eqV (V.int x) (V.int z) = true ↔ z = x := by
      show (x == z) = true ↔ _
      rw [beq_iff_eq]; exact eq_comm
    simp [e]
theorem flat_ints : ∀ {ns : List Int}, (ns.map V.int).all flatV = true
  | [] => rfl
  | n :: r => by rw [List.map_cons, List.all_cons, flat_ints (ns := r)]; rfl
theorem sort_two {ns' : List Int} {a b : Int} (h : a ≤ b) (p : ns'.Perm [a, b]) (s : ns'.Pairwise (· ≤ ·)) : ns' = [a, b] := sorted_eq p s (by simpa using h)
def spLTk : Sp := fun vs H Q _ => ∃ (n : Nat) (v : V) (c : Call), vs = [v] ∧ CallAt H v c ∧ spots n ∧ c.Ok n ∧ ∀ p H', Same H H' → H' p = some (.lst c.takes) → Q (.ref p) H'
theorem rd_ltk {H : Hp} {Q : VK} {E : XK} {n : Nat} {v : V} {c : Call} (h : CallAt H v c) (h1 : spots n) (h2 : c.Ok n) (q : ∀ p H', Same H H' → H' p = some (.lst c.takes) → Q (.ref p) H') : spLTk [v] H Q E := ⟨n, v, c, rfl, h, h1, h2, q⟩
def spLoose : Sp := fun vs H Q _ => ∃ (a : Addr) (ms : List Int) (n : Nat), vs = [.ref a, .int n] ∧ H a = some (.lst (ms.map V.int)) ∧ 17 ≤ ms.length ∧ spots n ∧ ∀ p H' cs, H p = none → Same H H' → Calls n H' p cs → cs ≠ [] → cs.length ≤ 4 → Q (.ref p) H'
theorem rd_loose {H : Hp} {Q : VK} {E : XK} {a : Addr} {ms : List Int} {n : Nat} (ha : H a = some (.lst (ms.map V.int))) (l : 17 ≤ ms.length) (hn : spots n) (q : ∀ p H' cs, H p = none → Same H H' → Calls n H' p cs → cs ≠ [] → cs.length ≤ 4 → Q (.ref p) H') : spLoose [.ref a, .int n] H Q E := ⟨a, ms, n, rfl, ha, l, hn, q⟩
def spLBar : Sp := fun vs H Q _ => ∃ (a : Addr) (ms : List Int) (n : Nat), vs = [.ref a, .int n] ∧ H a = some (.lst (ms.map V.int)) ∧ 17 ≤ ms.length ∧ spots n ∧ ∀ p H' cs, H p = none → Same H H' → Calls n H' p cs → BarOk n cs → Q (.ref p) H'
theorem rd_lbar {H : Hp} {Q : VK} {E : XK} {a : Addr} {ms : List Int} {n : Nat} (ha : H a = some (.lst (ms.map V.int))) (l : 17 ≤ ms.length) (hn : spots n) (q : ∀ p H' cs, H p = none → Same H H' → Calls n H' p cs → BarOk n cs → Q (.ref p) H') : spLBar [.ref a, .int n] H Q E := ⟨a, ms, n, rfl, ha, l, hn, q⟩
theorem any_apart {cs : List Call} {c : Call} (h : (((c.tkI.map fun z => decide (z ∈ cs.flatMap Call.tkI)) : List Bool).any id) = false) : ∀ d ∈ cs, Apart d c := fun d hd z hz y hy e => by
  rw [List.any_eq_false] at h
  refine h (decide (y ∈ cs.flatMap Call.tkI)) (List.mem_map.mpr ⟨y, hy, rfl⟩) ?_
  exact decide_eq_true (List.mem_flatMap.mpr ⟨d, hd, e ▸ hz⟩)
theorem in_map (c : Call) (ns : List Int) : ((List.range (c.tkI.map V.int).length).map fun j => V.bl (decide (c.tkI.getD j 0 ∈ ns))) = (c.tkI.map fun z => decide (z ∈ ns)).map V.bl := by
  refine List.ext_getElem? fun i => ?_
  rw [List.getElem?_map, List.getElem?_map, List.getElem?_map, List.length_map]
  by_cases h : i < c.tkI.length
  · rw [List.getElem?_range h, List.getElem?_eq_getElem h]
    show some (V.bl (decide (c.tkI.getD i 0 ∈ ns))) = _
    rw [List.getD_eq_getElem?_getD, List.getElem?_eq_getElem h]; rfl
  · rw [List.getElem?_eq_none (by rw [List.length_range]; omega), List.getElem?_eq_none (by omega)]; rfl
theorem bar_snoc {n : Nat} {cs : List Call} {c : Call} (hp : cs.Pairwise Apart) (h : ∀ d ∈ cs, Apart d c) : (cs ++ [c]).Pairwise Apart := List.pairwise_append.mpr ⟨hp, by simp, fun a ha b hb => by
  obtain rfl : b = c := by simpa using hb
  exact h a ha⟩
section
variable {P : Program} {w : World} {K : PySem.W.Frag} {mg : Str → Option Value} {base : Heap}
theorem sc__law_takes : FnScope ["_law_call_here"] ["_law_call_here"] (defScope s__law_takes) := ⟨rfl, rfl, rfl, by decide +kernel, rfl, by decide +kernel, by decide +kernel⟩
theorem ok__law_takes {f : Addr} {fd : FuncData} (F : Fun K "_law_takes" "_law_takes" s__law_takes f fd) (T : Txt P w K mg)  (F__law_swaps : FnAt P w K mg base "_law_swaps" 3 spLSw) : FnOk P w K mg base CX0 (3 + 1) f fd ["_law_call_here"] spLTk := by
  refine F.ok sc__law_takes (fun vs H Q E h => ?_) (fun cdv A outer s H vs Q E hr h => ?_)
  · obtain ⟨n, v, c, rfl, _⟩ := h
    rfl
  · obtain ⟨n, v, c, rfl, hca, hns, hok, k⟩ := h
    obtain ⟨a, rfl, ha⟩ := id hca
    have hc := hok
    obtain ⟨n1, n2⟩ := id hns
    refine ⟨_, (pss_cons (ps_if (pt_cmpR op_in_seq (pe_ix ix_tup (pv 0) pe_int (fun _ _ => rfl)) (pe_lst (pa_cons pe_str (pa_cons pe_str (pa_cons pe_str (pa_cons pe_str pa_nil))))) rfl)
      (pss_one (ps_ret (pe_callTy (cl_listR rfl) (by rfl) T.n_list bt_list (pa_cons (pe_callTy cl_rng (by rfl) T.n_range bt_range (pa_cons (pe_op op_mul pe_int (pe_ix ix_tup (pv 0) pe_int (fun _ _ => rfl))) (pa_cons (pe_op op_add (pe_op op_mul pe_int (pe_ix ix_tup (pv 0) pe_int (fun _ _ => rfl))) pe_int) pa_nil))) pa_nil))))
      pss_nil)
      (pss_one (ps_ret (pe_callB cl_sort (by rfl) T.n_sorted bt_sorted (pa_cons (pe_callTy cl_listL (by rfl) T.n_list bt_list (pa_cons (pe_callB (cl_sumT rfl) (by rfl) T.n_sum bt_sum (pa_cons (pe_fn F__law_swaps (hr.mono (by omega)) (pa_cons (pv 0) pa_nil)) (pa_cons (pe_tup pa_nil) pa_nil))) pa_nil)) pa_nil))))), ?_⟩
    cases c with
    | ring fi la m =>
      simp only [Call.word, Call.nums, Call.Ok] at ha hc
      walk_at "rd"
      exact k _ _ (by walk_at "sm") (by assumption)
    | chain fi la m =>
      simp only [Call.word, Call.nums, Call.Ok] at ha hc
      walk_at "rd"
      exact k _ _ (by walk_at "sm") (by assumption)
    | cross sp =>
      simp only [Call.word, Call.nums, Call.Ok] at ha hc
      obtain ⟨s, rfl⟩ := Int.eq_ofNat_of_zero_le hc.1
      walk_at "rd"
      refine rd_lsw (c := .cross (s : Int)) (by walk_at "ca") hns hok fun p2 H2 s2 h2 => ?_
      obtain ⟨ts, e2, q2⟩ := h2
      have q2' : Paired (Pr H2) ts [(2 * s, 2 * s + 1)] := q2
      cases q2' with
      | @cons t _ _ _ r1 r2 =>
        cases r2
        have h2t : H2 t = some (.tup [.int (2 * (s : Int)), .int (2 * (s : Int) + 1)]) := by
          have r1' : H2 t = some (.tup [.int ((2 * s : Nat) : Int), .int ((2 * s + 1 : Nat) : Int)]) := r1
          rw [r1', show ((2 * s : Nat) : Int) = 2 * (s : Int) from by omega, show ((2 * s + 1 : Nat) : Int) = 2 * (s : Int) + 1 from by omega]
        clear r1
        simp only [List.map_cons, List.map_nil] at e2
        walk_at "rd"
        rename_i p4 H4 hp4 s4 h4
        refine i_sort [2 * (s : Int), 2 * (s : Int) + 1] h4 (by show 2 < 64; decide) fun ns' l H5 pm pw _ s5 h5 => ?_
        rw [sort_two (by omega) pm pw] at h5
        exact k _ _ (by walk_at "sm") h5
    | pass sp d =>
      simp only [Call.word, Call.nums, Call.Ok] at ha hc
      obtain ⟨s, rfl⟩ := Int.eq_ofNat_of_zero_le hc.1
      obtain ⟨e, rfl⟩ := Int.eq_ofNat_of_zero_le (show 0 ≤ d by omega)
      walk_at "rd"
      refine rd_lsw (c := .pass (s : Int) (e : Int)) (by walk_at "ca") hns hok fun p2 H2 s2 h2 => ?_
      obtain ⟨ts, e2, q2⟩ := h2
      have q2' : Paired (Pr H2) ts [(2 * s + e, 2 * s + 2 + e)] := q2
      cases q2' with
      | @cons t _ _ _ r1 r2 =>
        cases r2
        have h2t : H2 t = some (.tup [.int (2 * (s : Int) + (e : Int)), .int (2 * (s : Int) + 2 + (e : Int))]) := by
          have r1' : H2 t = some (.tup [.int ((2 * s + e : Nat) : Int), .int ((2 * s + 2 + e : Nat) : Int)]) := r1
          rw [r1', show ((2 * s + e : Nat) : Int) = 2 * (s : Int) + (e : Int) from by omega, show ((2 * s + 2 + e : Nat) : Int) = 2 * (s : Int) + 2 + (e : Int) from by omega]
        clear r1
        simp only [List.map_cons, List.map_nil] at e2
        walk_at "rd"
        rename_i p4 H4 hp4 s4 h4
        refine i_sort [2 * (s : Int) + (e : Int), 2 * (s : Int) + 2 + (e : Int)] h4 (by show 2 < 64; decide) fun ns' l H5 pm pw _ s5 h5 => ?_
        rw [sort_two (by omega) pm pw] at h5
        exact k _ _ (by walk_at "sm") h5
    | corner sp d =>
      simp only [Call.word, Call.nums, Call.Ok] at ha hc
      obtain ⟨s, rfl⟩ := Int.eq_ofNat_of_zero_le hc.1
      obtain ⟨e, rfl⟩ := Int.eq_ofNat_of_zero_le (show 0 ≤ d by omega)
      walk_at "rd"
      refine rd_lsw (c := .corner (s : Int) (e : Int)) (by walk_at "ca") hns hok fun p2 H2 s2 h2 => ?_
      obtain ⟨ts, e2, q2⟩ := h2
      have q2' : Paired (Pr H2) ts [(2 * s + e, 2 * s + 3 - e)] := q2
      cases q2' with
      | @cons t _ _ _ r1 r2 =>
        cases r2
        have h2t : H2 t = some (.tup [.int (2 * (s : Int) + (e : Int)), .int (2 * (s : Int) + 3 - (e : Int))]) := by
          have r1' : H2 t = some (.tup [.int ((2 * s + e : Nat) : Int), .int ((2 * s + 3 - e : Nat) : Int)]) := r1
          rw [r1', show ((2 * s + e : Nat) : Int) = 2 * (s : Int) + (e : Int) from by omega, show ((2 * s + 3 - e : Nat) : Int) = 2 * (s : Int) + 3 - (e : Int) from by omega]
        clear r1
        simp only [List.map_cons, List.map_nil] at e2
        walk_at "rd"
        rename_i p4 H4 hp4 s4 h4
        refine i_sort [2 * (s : Int) + (e : Int), 2 * (s : Int) + 3 - (e : Int)] h4 (by show 2 < 64; decide) fun ns' l H5 pm pw _ s5 h5 => ?_
        rw [sort_two (by omega) pm pw] at h5
        exact k _ _ (by walk_at "sm") h5
    | cast fi la =>
      simp only [Call.word, Call.nums, Call.Ok] at ha hc
      walk_at "rd"
      exact k _ _ (by walk_at "sm") (by assumption)
    | lead fi la =>
      simp only [Call.word, Call.nums, Call.Ok] at ha hc
      walk_at "rd"
      exact k _ _ (by walk_at "sm") (by assumption)
    | stand m =>
      simp only [Call.word, Call.nums, Call.Ok] at ha hc
      walk_at "rd"
      refine rd_lsw (c := .stand m) (by walk_at "ca") hns hok fun p2 H2 s2 h2 => ?_
      obtain ⟨ts, e2, q2⟩ := h2
      have q2' : Paired (Pr H2) ts [] := q2
      cases q2'
      simp only [List.map_nil] at e2
      walk_at "rd"
      rename_i p4 H4 hp4 s4 h4
      refine i_sort [] h4 (by decide) fun ns' l H5 pm _ _ s5 h5 => ?_
      rw [pm.eq_nil] at h5
      exact k _ _ (by walk_at "sm") h5
end

section
variable {P : Program} {w : World} {K : PySem.W.Frag} {mg : Str → Option Value} {base : Heap}
end

section
variable {P : Program} {w : World} {K : PySem.W.Frag} {mg : Str → Option Value} {base : Heap}
theorem sc__law_spots : FnScope ["_law_d"] ["_law_d"] (defScope s__law_spots) := ⟨rfl, rfl, rfl, by decide +kernel, rfl, by decide +kernel, by decide +kernel⟩
theorem ok__law_spots {f : Addr} {fd : FuncData} (F : Fun K "_law_spots" "_law_spots" s__law_spots f fd) (T : Txt P w K mg)   : FnOk P w K mg base CX0 (0 + 1) f fd ["_law_d"] spSpots := by
  refine F.ok sc__law_spots (fun vs H Q E h => ?_) (fun cdv A outer s H vs Q E hr h => ?_)
  · obtain ⟨d, rfl, _⟩ := h
    rfl
  · obtain ⟨d, rfl, k⟩ := h
    refine ⟨_, (pss_one (ps_ret (pe_ix ix_list (pe_lst (pa_cons pe_int (pa_cons pe_int (pa_cons pe_int (pa_cons pe_int (pa_cons pe_int (pa_cons pe_int (pa_cons pe_int pa_nil)))))))) (pe_op op_mod (pv 0) pe_int) (fun _ _ => rfl)))), ?_⟩
    walk_at "rd"
    rename_i p1 H1 hp1 hs1 he1
    refine i_ixAny he1 (by omega) (by show _ < (7 : Int); omega) fun v hv => ?_
    simp only [List.mem_cons, List.not_mem_nil, or_false] at hv
    rcases hv with rfl | rfl | rfl | rfl | rfl | rfl | rfl <;> exact k _ _ ⟨by decide, by decide⟩ hs1
theorem sc__law_call : FnScope ["_law_d", "_law_spots_here", "_law_word", "_law_first", "_law_last", "_law_many"] ["_law_d", "_law_spots_here"] (defScope s__law_call) := ⟨rfl, rfl, rfl, by decide +kernel, rfl, by decide +kernel, by decide +kernel⟩
theorem ok__law_call {f : Addr} {fd : FuncData} (F : Fun K "_law_call" "_law_call" s__law_call f fd) (T : Txt P w K mg)   : FnOk P w K mg base CX0 (0 + 1) f fd ["_law_d", "_law_spots_here"] spMk := by
  refine F.ok sc__law_call (fun vs H Q E h => ?_) (fun cdv A outer s H vs Q E hr h => ?_)
  · obtain ⟨a, ms, s, rfl, _⟩ := h
    rfl
  · obtain ⟨a, ms, s', rfl, ha, hl, hns, k⟩ := h
    refine ⟨_, (pss_cons (ps_set (i := 2) sc__law_call.nd rfl (Or.inl rfl) (pe_ix ix_list (pe_lst (pa_cons pe_str (pa_cons pe_str (pa_cons pe_str (pa_cons pe_str (pa_cons pe_str (pa_cons pe_str (pa_cons pe_str (pa_cons pe_str pa_nil))))))))) (pe_op op_mod (pe_ix ix_list (pv 0) pe_int (fun _ _ => rfl)) pe_int) (fun _ _ => rfl)))
      (pss_cons (ps_set (i := 3) sc__law_call.nd rfl (Or.inl rfl) (pe_op op_mod (pe_ix ix_list (pv 0) pe_int (fun _ _ => rfl)) (pe_op op_sub (pv 1) pe_int)))
      (pss_cons (ps_set (i := 4) sc__law_call.nd rfl (Or.inl rfl) (pe_op op_add (pe_op op_add (pv 3) pe_int) (pe_op op_mod (pe_ix ix_list (pv 0) pe_int (fun _ _ => rfl)) (pe_op op_sub (pe_op op_sub (pv 1) pe_int) (pv 3)))))
      (pss_cons (ps_set (i := 5) sc__law_call.nd rfl (Or.inl rfl) (pe_op op_add pe_int (pe_op op_mod (pe_ix ix_list (pv 0) pe_int (fun _ _ => rfl)) (pe_ix ix_list (pe_lst (pa_cons pe_int (pa_cons pe_int (pa_cons pe_int pa_nil)))) (pe_op op_mod (pe_op op_fdiv (pe_ix ix_list (pv 0) pe_int (fun _ _ => rfl)) pe_int) pe_int) (fun _ _ => rfl)))))
      (pss_cons (ps_if (pt_cmpR op_in_seq (pv 2) (pe_lst (pa_cons pe_str (pa_cons pe_str pa_nil))) rfl)
      (pss_one (ps_ret (pe_tup (pa_cons (pv 2) (pa_cons (pv 3) (pa_cons (pv 4) (pa_cons (pe_op op_mul (pv 5) (pe_ix ix_list (pe_lst (pa_cons pe_int (pa_cons (pe_un un_neg pe_int) pa_nil))) (pe_op op_mod (pe_op op_fdiv (pe_ix ix_list (pv 0) pe_int (fun _ _ => rfl)) pe_int) pe_int) (fun _ _ => rfl))) pa_nil)))))))
      pss_nil)
      (pss_cons (ps_if (pt_cmpR op_eq (pv 2) pe_str (nomark _))
      (pss_one (ps_ret (pe_tup (pa_cons (pv 2) (pa_cons (pe_op op_mod (pe_ix ix_list (pv 0) pe_int (fun _ _ => rfl)) (pv 1)) pa_nil)))))
      pss_nil)
      (pss_cons (ps_if (pt_cmpR op_in_seq (pv 2) (pe_lst (pa_cons pe_str (pa_cons pe_str pa_nil))) rfl)
      (pss_one (ps_ret (pe_tup (pa_cons (pv 2) (pa_cons (pv 3) (pa_cons (pe_op op_mod (pe_ix ix_list (pv 0) pe_int (fun _ _ => rfl)) pe_int) pa_nil))))))
      pss_nil)
      (pss_cons (ps_if (pt_cmpR op_eq (pv 2) pe_str (nomark _))
      (pss_one (ps_ret (pe_tup (pa_cons (pv 2) (pa_cons (pv 5) pa_nil)))))
      pss_nil)
      (pss_one (ps_ret (pe_tup (pa_cons (pv 2) (pa_cons (pv 3) (pa_cons (pv 4) pa_nil)))))))))))))), ?_⟩
    obtain ⟨n1, n2⟩ := id hns
    obtain ⟨m0, m1, m2, m3, rest, rfl⟩ : ∃ m0 m1 m2 m3 rest, ms = m0 :: m1 :: m2 :: m3 :: rest := by
      match ms, hl with
      | m0 :: m1 :: m2 :: m3 :: rest, _ => exact ⟨m0, m1, m2, m3, rest, rfl⟩
    have a0 : atI (List.map V.int (m0 :: m1 :: m2 :: m3 :: rest)) 0 = some (.int m0) := atI_nat (j := 0) rfl
    have a1 : atI (List.map V.int (m0 :: m1 :: m2 :: m3 :: rest)) 1 = some (.int m1) := atI_nat (j := 1) rfl
    have a2 : atI (List.map V.int (m0 :: m1 :: m2 :: m3 :: rest)) 2 = some (.int m2) := atI_nat (j := 2) rfl
    have a3 : atI (List.map V.int (m0 :: m1 :: m2 :: m3 :: rest)) 3 = some (.int m3) := atI_nat (j := 3) rfl
    have f0 : 0 ≤ m1 % (s' - 1) := Int.emod_nonneg _ (by omega)
    have f1 : m1 % (s' - 1) < s' - 1 := Int.emod_lt_of_pos _ (by omega)
    have c0 : 0 ≤ m1 % s' := Int.emod_nonneg _ (by omega)
    have c1 : m1 % s' < s' := Int.emod_lt_of_pos _ (by omega)
    have g0 : 0 ≤ m2 % (s' - 1 - m1 % (s' - 1)) := Int.emod_nonneg _ (by omega)
    have g1 : m2 % (s' - 1 - m1 % (s' - 1)) < s' - 1 - m1 % (s' - 1) := Int.emod_lt_of_pos _ (by omega)
    generalize List.map V.int (m0 :: m1 :: m2 :: m3 :: rest) = L at ha a0 a1 a2 a3
    walk_at "rd"
    rename_i p1 H1 hp1 hs1 he1
    rcases (by omega : m0 % 8 = 0 ∨ m0 % 8 = 1 ∨ m0 % 8 = 2 ∨ m0 % 8 = 3 ∨ m0 % 8 = 4 ∨ m0 % 8 = 5 ∨ m0 % 8 = 6 ∨ m0 % 8 = 7) with h | h | h | h | h | h | h | h
    all_goals
      rw [h]
      walk_at "rd"
      rename_i p2 H2 hp2 hs2 he2
      refine i_ixAny he2 (by omega) (by show _ < (3 : Int); omega) fun v hv => ?_
      simp only [List.mem_cons, List.not_mem_nil, or_false] at hv
      obtain ⟨b, rfl, b0, b1⟩ : ∃ b : Int, v = .int b ∧ 0 < b ∧ b ≤ 64 := by
        rcases hv with rfl | rfl | rfl
        · exact ⟨_, rfl, by decide, by decide⟩
        · exact ⟨_, rfl, by decide, by decide⟩
        · exact ⟨_, rfl, by decide, by decide⟩
      have e0 : 0 ≤ m3 % b := Int.emod_nonneg _ (by omega)
      have e1 : m3 % b < b := Int.emod_lt_of_pos _ b0
      walk_at "rd"
    · rename_i p4 H4 hp4 hs4 he4
      refine i_ixAny he4 (by omega) (by show _ < (2 : Int); omega) fun v hv => ?_
      simp only [List.mem_cons, List.not_mem_nil, or_false] at hv
      rcases hv with rfl | rfl
      · walk_at "rd"
        exact k _ (.ring _ _ _) _ (by walk_at "sm") ⟨_, rfl, by assumption⟩ (by simp only [Call.Ok]; omega)
      · walk_at "rd"
        exact k _ (.ring _ _ _) _ (by walk_at "sm") ⟨_, rfl, by assumption⟩ (by simp only [Call.Ok]; omega)
    · rename_i p4 H4 hp4 hs4 he4
      refine i_ixAny he4 (by omega) (by show _ < (2 : Int); omega) fun v hv => ?_
      simp only [List.mem_cons, List.not_mem_nil, or_false] at hv
      rcases hv with rfl | rfl
      · walk_at "rd"
        exact k _ (.chain _ _ _) _ (by walk_at "sm") ⟨_, rfl, by assumption⟩ (by simp only [Call.Ok]; omega)
      · walk_at "rd"
        exact k _ (.chain _ _ _) _ (by walk_at "sm") ⟨_, rfl, by assumption⟩ (by simp only [Call.Ok]; omega)
    · exact k _ (.cross _) _ (by walk_at "sm") ⟨_, rfl, by assumption⟩ (by simp only [Call.Ok]; omega)
    · exact k _ (.pass _ _) _ (by walk_at "sm") ⟨_, rfl, by assumption⟩ (by simp only [Call.Ok]; omega)
    · exact k _ (.corner _ _) _ (by walk_at "sm") ⟨_, rfl, by assumption⟩ (by simp only [Call.Ok]; omega)
    · exact k _ (.cast _ _) _ (by walk_at "sm") ⟨_, rfl, by assumption⟩ (by simp only [Call.Ok]; omega)
    · exact k _ (.lead _ _) _ (by walk_at "sm") ⟨_, rfl, by assumption⟩ (by simp only [Call.Ok]; omega)
    · exact k _ (.stand _) _ (by walk_at "sm") ⟨_, rfl, by assumption⟩ (by simp only [Call.Ok]; omega)
end

section
variable {P : Program} {w : World} {K : PySem.W.Frag} {mg : Str → Option Value} {base : Heap}
theorem sc__law_loose_bar : FnScope ["_law_d", "_law_spots_here"] ["_law_d", "_law_spots_here"] (defScope s__law_loose_bar) := ⟨rfl, rfl, rfl, by decide +kernel, rfl, by decide +kernel, by decide +kernel⟩
theorem ok__law_loose_bar {f : Addr} {fd : FuncData} (F : Fun K "_law_loose_bar" "_law_loose_bar" s__law_loose_bar f fd) (T : Txt P w K mg)  (F__law_call : FnAt P w K mg base "_law_call" 1 spMk) : FnOk P w K mg base CX0 (1 + 1) f fd ["_law_d", "_law_spots_here"] spLoose := by
  refine F.ok sc__law_loose_bar (fun vs H Q E h => ?_) (fun cdv A outer s H vs Q E hr h => ?_)
  · obtain ⟨a, ms, n, rfl, _⟩ := h
    rfl
  · obtain ⟨a, ms, n, rfl, ha, hl, hn, k⟩ := h
    refine ⟨_, (pss_one (ps_ret (pe_comp (N := ["_law_k", "_law_spots_here", "_law_d"]) (k := 1) (caps := [1, 0]) rfl (compOk_of ["_law_d", "_law_spots_here"] (defScope s__law_loose_bar).names (by decide +kernel)) (pi_range1 rfl T.n_range (pa_cons (pe_op op_add pe_int (pe_op op_mod (pe_ix ix_list (pv 0) pe_int (fun _ _ => rfl)) pe_int)) pa_nil)) (fun _ _ _ _ => (pg_name (i := 0) (show List.Nodup (["_law_k", "_law_spots_here", "_law_d"] : List Str) by decide +kernel) rfl (Or.inl rfl))) (fun _ _ _ _ => pcs_nil) (fun _ _ _ _ => (pe_fn F__law_call (hr.mono (by omega)) (pa_cons (pe_slice (kSl (r := rSlL) (K := K) sl_list rfl) (pv 2) (po_some (pe_op op_add pe_int (pe_op op_mul pe_int (pv 0)))) po_none) (pa_cons (pv 1) pa_nil))))))), ?_⟩
    walk_at "rd"
    refine i_ixAny ha (by omega) (by rw [List.length_map]; omega) fun v hv => ?_
    obtain ⟨z, _, rfl⟩ := List.mem_map.mp hv
    walk_at "rd"
    refine ⟨by omega, by omega, comp_rR (R := CallOk n) (fun _ _ => True) ?_ ?_⟩
    · intro D i own H3 ys as hD hi ho s3 e3 hpr la hG
      obtain ⟨o, rfl⟩ : ∃ o, own = [o] := by
        match own, ho with
        | [o], _ => exact ⟨o, rfl⟩
      have hi' : i < 4 := by omega
      walk_at "rd"
      rename_i p4 H4 hp4 s4 h4
      rw [cut_from ms (by omega)] at h4
      refine rd_mk h4 (by rw [List.length_drop]; omega) hn fun v c H5 s5 hca hok => ?_
      exact yieldR (callStab n) [some (.int (0 + (i : Int)))] (by omega) hi hD s3 e3 hpr la hG (s4.trans s5) ⟨hca, hok⟩ trivial rfl rfl
    intro D H3 ys as hD s3 e3 hpr la hG
    exact k _ _ as hD s3 ⟨ys, e3, hpr⟩ (fun z0 => by rw [z0] at la; simp at la; omega) (by omega)
theorem sc__law_bar : FnScope ["_law_d", "_law_spots_here", "_law_found", "_law_busy", "_law_call_here"] ["_law_d", "_law_spots_here"] (defScope s__law_bar) := ⟨rfl, rfl, rfl, by decide +kernel, rfl, by decide +kernel, by decide +kernel⟩
theorem ok__law_bar {f : Addr} {fd : FuncData} (F : Fun K "_law_bar" "_law_bar" s__law_bar f fd) (T : Txt P w K mg)  (F__law_loose_bar : FnAt P w K mg base "_law_loose_bar" 2 spLoose) (F__law_takes : FnAt P w K mg base "_law_takes" 4 spLTk) : FnOk P w K mg base CX0 (4 + 1) f fd ["_law_d", "_law_spots_here"] spLBar := by
  refine F.ok sc__law_bar (fun vs H Q E h => ?_) (fun cdv A outer s H vs Q E hr h => ?_)
  · obtain ⟨a, ms, n, rfl, _⟩ := h
    rfl
  · obtain ⟨a, ms, n, rfl, ha, hl, hn, k⟩ := h
    refine ⟨_, (pss_cons (ps_set (i := 2) sc__law_bar.nd rfl (Or.inl rfl) (pe_lst pa_nil))
      (pss_cons (ps_set (i := 3) sc__law_bar.nd rfl (Or.inr rfl) (pe_lst pa_nil))
      (pss_cons (ps_for PassesOwn.never rfl (pi_list (pe_fn F__law_loose_bar (hr.mono (by omega)) (pa_cons (pv 0) (pa_cons (pv 1) pa_nil)))) (pg_name (i := 4) sc__law_bar.nd rfl (Or.inl rfl))
      (pss_one (ps_if (pt_not (pt_val (pe_callB (cl_any rfl) (by rfl) T.n_any bt_any (pa_cons (pe_comp (N := ["_law_place", "_law_busy"]) (k := 1) (caps := [3]) rfl (compOk_of ["_law_d", "_law_spots_here", "_law_found", "_law_busy", "_law_call_here"] (defScope s__law_bar).names (by decide +kernel)) (pi_list (pe_fn F__law_takes (hr.mono (by omega)) (pa_cons (pv 4) pa_nil))) (fun _ _ _ _ => (pg_name (i := 0) (show List.Nodup (["_law_place", "_law_busy"] : List Str) by decide +kernel) rfl (Or.inl rfl))) (fun _ _ _ _ => pcs_nil) (fun _ _ _ _ => (pe_cmpR (kOp (r := (fun K => rIn K false)) (K := K) op_in_seq rfl) (pv 0) (pv 1) rfl))) pa_nil))))
      (pss_cons (ps_expr (pe_bm PySem.F.plainAttrs_list PySem.F.slot_list_append PySem.F.type_list_append mt_append (pv 2) (pa_cons (pv 4) pa_nil)))
      (pss_one (ps_set (i := 3) sc__law_bar.nd rfl (Or.inr rfl) (pe_op op_cat (pv 3) (pe_fn F__law_takes (hr.mono (by omega)) (pa_cons (pv 4) pa_nil))))))
      pss_nil)))
      (pss_one (ps_ret (pv 2)))))), ?_⟩
    obtain ⟨n1, n2⟩ := id hn
    walk_at "rd"
    rename_i pf H1 hpf s1 e1 pb0 H2 hpb s2 e2
    have e1' := s2 _ _ e1
    have nbf : pb0 ≠ pf := fun z => by rw [z, e1] at hpb; cases hpb
    refine rd_loose (s2 _ _ (s1 _ _ ha)) hl hn fun pl H3 cs hpl s3 hcs l0 l4 => ?_
    obtain ⟨xs, hxl, hpr⟩ := hcs
    have lx : xs.length = cs.length := hpr.length
    have e3f := s3 _ _ e1'
    have nlf : pl ≠ pf := fun z => by rw [z, e1'] at hpl; cases hpl
    have f0 : H pf = none := hpf
    refine ⟨_, rfl, ⟨_, SqL.of hxl⟩, for_l (xs := xs) (fun i σ H4 => ∃ pb o4 ys ds, σ = [some (.ref a), some (.int n), some (.ref pf), some (.ref pb), o4] ∧ Same H H4 ∧ H4 pl = some (.lst xs) ∧ Paired (CallOk n H4) xs cs ∧ H4 pf = some (.lst ys) ∧ Paired (CallOk n H4) ys ds ∧ pb ≠ pf ∧ H4 pb = some (.lst ((ds.flatMap Call.tkI).map V.int)) ∧ ds.length ≤ i ∧ (0 < i → ds ≠ []) ∧ ds.Pairwise Apart)
      ⟨pb0, _, [], [], rfl, s1.trans (s2.trans s3), hxl, hpr, e3f, .nil, nbf, s3 _ _ e2, Nat.le_refl _, fun z => absurd z (Nat.lt_irrefl _), .nil⟩ (fun i σ H4 _ ⟨_, _, _, _, _, _, z, _⟩ => SqL.of z) ?_ ?_⟩
    · rintro i x σ H4 hx ⟨pb, o4, ys, ds, rfl, s4, h4l, h4x, h4f, h4y, nb, h4b, dl, d0, dp⟩
      have hi : i < xs.length := (List.getElem?_eq_some_iff.mp hx).1
      obtain ⟨v, c, ev, ec, hca, hok⟩ := paired_at h4x hi
      rw [hx] at ev
      cases ev
      have dok : ∀ d ∈ ds, d.Ok n := paired_ok h4y
      have bl := bar_len hn dok
      have tl := tk_len hn hok
      walk_at "rd"
      refine rd_ltk (n := n) hca hn hok fun q5 H5 s5 h5 => ?_
      rw [takes_eq] at h5
      refine ⟨_, rfl, ⟨_, SqL.of h5⟩, comp_lm (fun j => .bl (decide (c.tkI.getD j 0 ∈ ds.flatMap Call.tkI))) h5 ?_ ?_⟩
      · intro D j y own H6 hD hy ho s6 e6
        obtain ⟨o, rfl⟩ : ∃ o, own = [o] := by
          match own, ho with
          | [o], _ => exact ⟨o, rfl⟩
        have hj : j < c.tkI.length := by have := (List.getElem?_eq_some_iff.mp hy).1; rw [List.length_map] at this; exact this
        rw [List.getElem?_map, List.getElem?_eq_getElem hj] at hy
        cases hy
        walk_at "rd"
        refine rd_inL (s6 _ _ (s5 _ _ h4b)) rfl flat_ints ?_
        refine yieldM [some (.int c.tkI[j])] (by rw [List.length_map]; omega) (by rw [List.length_map]; exact hj) hD s6 e6 (by walk_at "sm") ?_ rfl rfl
        show V.bl (inV (.int c.tkI[j]) _) = _
        rw [in_ints, List.getD_eq_getElem?_getD, List.getElem?_eq_getElem hj]; rfl
      intro D H6 hD s6 e6
      rw [in_map] at e6
      walk_at "rd"
      refine i_any _ e6 ?_
      walk_at "rd"
      refine ite2 (fun cc => ?_) (fun cc => ?_)
      · have hap := any_apart (by simpa using cc)
        walk_at "rd"
        have s46 : Same H4 H6 := s5.trans s6
        refine i_app2 (s46 _ _ h4f) (Nat.lt_of_lt_of_le (by rw [h4y.length]; omega : _ < 1000) k1000) fun H7 h7 h7o => ?_
        have keep : ∀ b o, b ≠ pf → H4 b = some o → H7 b = some o := fun b o e z => h7o b o e (s46 _ _ z)
        have ct : ∀ {v : V} {d : Call}, CallOk n H4 v d → CallOk n H7 v d := fun {v d} e => by
          obtain ⟨⟨q, eq, hq⟩, ok⟩ := e
          exact ⟨⟨q, eq, keep q _ (fun z => by rw [z, h4f] at hq; cases hq) hq⟩, ok⟩
        walk_at "rd"
        refine rd_ltk (n := n) (ct ⟨hca, hok⟩).1 hn hok fun q8 H8 s8 h8 => ?_
        rw [takes_eq] at h8
        walk_at "rd"
        refine i_cat (s8 _ _ (keep _ _ nb h4b)) h8 (Nat.le_trans (by rw [List.length_map, List.length_map]; omega : _ ≤ 1000) k1000) fun p9 H9 hp9 s9 h9 => ?_
        walk_at "rd"
        have s79 : Same H7 H9 := s8.trans s9
        refine ⟨p9, _, ys ++ [x], ds ++ [c], rfl, fun b o e => s79 _ _ (keep b o (ne_of_none e f0) (s4 _ _ e)), s79 _ _ (keep _ _ nlf h4l), Paired.mapP h4x fun v d e => (callStab n).mono s79 (ct e), s79 _ _ h7, pr_snoc (Paired.mapP h4y fun v d e => (callStab n).mono s79 (ct e)) ((callStab n).mono s79 (ct ⟨hca, hok⟩)), fun z => ?_, ?_, by rw [List.length_append]; show _ + 1 ≤ _; omega, fun _ z => by simp at z, bar_snoc (n := n) dp hap⟩
        · rw [z, s8 _ _ h7] at hp9; cases hp9
        · rw [h9, List.flatMap_append, List.map_append]; simp
      · walk_at "rd"
        have s46 : Same H4 H6 := s5.trans s6
        refine ⟨pb, _, ys, ds, rfl, s4.trans s46, s46 _ _ h4l, callOk_mono s46 h4x, s46 _ _ h4f, callOk_mono s46 h4y, nb, s46 _ _ h4b, by omega, fun _ z => ?_, dp⟩
        subst z
        exact cc (by simp)
    · rintro σ H4 ⟨pb, o4, ys, ds, rfl, s4, h4l, h4x, h4f, h4y, nb, h4b, dl, d0, dp⟩
      walk_at "rd"
      have lc : 0 < cs.length := List.length_pos_iff.mpr l0
      exact k _ _ ds f0 s4 ⟨ys, h4f, h4y⟩ ⟨d0 (by omega), by omega, paired_ok h4y, dp⟩
end


def BarAt (n : Nat) (H : Hp) (v : V) (cs : List Call) : Prop := (∃ p, v = .ref p ∧ Calls n H p cs) ∧ BarOk n cs
theorem barStab (n : Nat) : Stab (BarAt n) where
  mono := fun s h => by obtain ⟨⟨p, e, hp⟩, r⟩ := h; exact ⟨⟨p, e, hp.same s⟩, r⟩
  rf := fun h => by obtain ⟨⟨p, e, _⟩, _⟩ := h; exact ⟨p, e⟩
  wr := fun {H D ys zs as v cs} hr hD h => by
    obtain ⟨⟨p, e, xs, hp, pr⟩, hb⟩ := h
    have hpD : p ≠ D := fun z => by
      rw [z, hD] at hp
      have exy : ys = xs := HO.lst.inj (Option.some.inj hp)
      subst exy
      cases pr with
      | nil => exact hb.one rfl
      | cons r1 t1 =>
        cases hr with
        | cons r2 t2 =>
          obtain ⟨⟨q, e1, h1⟩, _⟩ := r1
          obtain ⟨⟨q', e2, ys', h2, _⟩, _⟩ := r2
          rw [e1] at e2
          cases e2
          rw [h1] at h2; cases h2
    refine ⟨⟨p, e, xs, by rw [upd_ne hpD]; exact hp, ?_⟩, hb⟩
    refine Paired.mapP pr fun w c q => ?_
    obtain ⟨⟨a, e, ha⟩, ok⟩ := q
    refine ⟨⟨a, e, ?_⟩, ok⟩
    rw [upd_ne (fun z => by rw [z, hD] at ha; cases ha)]; exact ha
def Bars (n : Nat) (H : Hp) (a : Addr) (fs : List (List Call)) : Prop := ∃ xs, H a = some (.lst xs) ∧ Paired (BarAt n H) xs fs
theorem barAt_mono {n : Nat} {H H' : Hp} (s : Same H H') {xs : List V} {fs : List (List Call)} (h : Paired (BarAt n H) xs fs) : Paired (BarAt n H') xs fs := Paired.mapP h fun v c e => (barStab n).mono s e
theorem Bars.same {n : Nat} {H H' : Hp} {a : Addr} {fs : List (List Call)} (h : Bars n H a fs) (s : Same H H') : Bars n H' a fs := by
  obtain ⟨xs, e, p⟩ := h; exact ⟨xs, s _ _ e, barAt_mono s p⟩
theorem bars_ok {n : Nat} {H : Hp} : ∀ {xs : List V} {fs : List (List Call)}, Paired (BarAt n H) xs fs → ∀ cs ∈ fs, BarOk n cs
  | _, _, .nil, c, h => by simp at h
  | _, _, .cons r t, c, h => by
    rcases List.mem_cons.mp h with e | e
    · rw [e]; exact r.2
    · exact bars_ok t c e
def spLookFig : Sp := fun vs H Q _ => ∃ (n : Nat) (a : Addr) (fs : List (List Call)), vs = [.int n, .ref a] ∧ spots n ∧ Bars n H a fs ∧ fs.length ≤ 16 ∧ ∀ H', Same H H' → Q .non H'
theorem rd_lookfig {H : Hp} {Q : VK} {E : XK} {n : Nat} {a : Addr} {fs : List (List Call)} (hn : spots n) (h : Bars n H a fs) (hl : fs.length ≤ 16) (q : ∀ H', Same H H' → Q .non H') : spLookFig [.int n, .ref a] H Q E := ⟨n, a, fs, rfl, hn, h, hl, q⟩
theorem map_ix {α β : Type} (f : α → β) (d : β) (fs : List α) : ((List.range fs.length).map fun i => ((fs[i]?).map f).getD d) = fs.map f := by
  refine List.ext_getElem? fun i => ?_
  rw [List.getElem?_map, List.getElem?_map]
  by_cases c : i < fs.length
  · rw [List.getElem?_range c]
    show some (((fs[i]?).map f).getD d) = _
    rw [List.getElem?_eq_getElem c]; rfl
  · rw [List.getElem?_eq_none (by rw [List.length_range]; omega), List.getElem?_eq_none (by omega)]; rfl
theorem den_bars {n : Nat} {H : Hp} {k : Nat} {p : Addr} {fs : List (List Call)} (h : Bars n H p fs) (l : fs.length ≤ 1000) : Den H (k + 4) (.lst (fs.map fun cs => .lst (cs.map Call.den))) (.ref p) := by
  obtain ⟨xs, hp, pr⟩ := h
  refine ⟨p, xs, rfl, hp, by rw [List.length_map]; exact l, ?_⟩
  clear hp l
  induction pr with
  | nil => exact .nil
  | cons r t ih =>
    obtain ⟨⟨q, e, hq⟩, hb⟩ := r
    subst e
    exact .cons (den_calls hq (by have := hb.four; omega)) ih
theorem bars_oks : ∀ fs : List (List Call), D.oks (fs.map fun cs => .lst (cs.map Call.den)) = true
  | [] => rfl
  | cs :: r => by rw [List.map_cons, D.oks, D.ok, calls_oks cs, bars_oks r]; rfl

section
variable {P : Program} {w : World} {K : PySem.W.Frag} {mg : Str → Option Value} {base : Heap}
theorem sc_look_figure : FnScope ["spots", "figure", "bar"] ["spots", "figure"] (defScope s_look_figure) := ⟨rfl, rfl, rfl, by decide +kernel, rfl, by decide +kernel, by decide +kernel⟩
theorem ok_look_figure {f : Addr} {fd : FuncData} (F : Fun K "look_figure" "look_figure" s_look_figure f fd) (T : Txt P w K mg)  (F_look_spots : FnAt P w K mg base "look_spots" 1 spLook) (F_look_bar : FnAt P w K mg base "look_bar" 5 spLookBar) : FnOk P w K mg base CX0 (5 + 1) f fd ["spots", "figure"] spLookFig := by
  refine F.ok sc_look_figure (fun vs H Q E h => ?_) (fun cdv A outer s H vs Q E hr h => ?_)
  · obtain ⟨n, a, fs, rfl, _⟩ := h
    rfl
  · obtain ⟨n, a, fs, rfl, hn, hfs, hl, k⟩ := h
    refine ⟨_, (pss_cons (ps_expr (pe_fn F_look_spots (hr.mono (by omega)) (pa_cons (pv 0) pa_nil)))
      (pss_cons (ps_if (pt_cmpR op_gt (pe_callB cl_len (by rfl) T.n_len PySem.boot_len (pa_cons (pv 1) pa_nil)) (pe_globI T.c_MOST_BARS) (nomark _))
      (pss_one ps_never)
      pss_nil)
      (pss_one (ps_for PassesOwn.never rfl (pi_list (pv 1)) (pg_name (i := 2) sc_look_figure.nd rfl (Or.inl rfl))
      (pss_one (ps_expr (pe_fn F_look_bar (hr.mono (by omega)) (pa_cons (pv 0) (pa_cons (pv 2) pa_nil))))))))), ?_⟩
    obtain ⟨n1, n2⟩ := id hn
    obtain ⟨xs, ha, hp⟩ := hfs
    have lx : xs.length = fs.length := hp.length
    walk_at "rd"
    refine ⟨_, rfl, ⟨_, SqL.of ha⟩, for_l (xs := xs) (fun i σ H3 => ∃ o2, σ = [some (.int n), some (.ref a), o2] ∧ Same H H3) ⟨_, rfl, Same.refl _⟩ (fun i σ H3 _ ⟨_, _, s3⟩ => SqL.of (s3 _ _ ha)) ?_ ?_⟩
    · rintro i x σ H3 hx ⟨o2, rfl, s3⟩
      have hi : i < xs.length := (List.getElem?_eq_some_iff.mp hx).1
      obtain ⟨v, cs, ev, ec, hba⟩ := paired_at hp hi
      rw [hx] at ev
      cases ev
      obtain ⟨⟨q, rfl, hq⟩, hb⟩ := (barStab n).mono s3 hba
      walk_at "rd"
      refine rd_lookbar hn hq hb fun H4 s4 => ?_
      exact ⟨_, rfl, s3.trans s4⟩
    · rintro σ H3 ⟨o2, rfl, s3⟩
      walk_at "rd"
      exact k _ s3
end


def spLFig : Sp := fun vs H Q _ => ∃ (a : Addr) (ms : List Int) (n m : Nat), vs = [.ref a, .int n, .int m] ∧ H a = some (.lst (ms.map V.int)) ∧ m ≤ 16 ∧ 1 + 17 * m ≤ ms.length ∧ spots n ∧ ∀ p H' fs, H p = none → Same H H' → Bars n H' p fs → fs.length ≤ m → Q (.ref p) H'
theorem rd_lfig {H : Hp} {Q : VK} {E : XK} {a : Addr} {ms : List Int} {n m : Nat} (ha : H a = some (.lst (ms.map V.int))) (hm : m ≤ 16) (l : 1 + 17 * m ≤ ms.length) (hn : spots n) (q : ∀ p H' fs, H p = none → Same H H' → Bars n H' p fs → fs.length ≤ m → Q (.ref p) H') : spLFig [.ref a, .int n, .int m] H Q E := ⟨a, ms, n, m, rfl, ha, hm, l, hn, q⟩
def spLCopy : Sp := fun vs H Q _ => ∃ (n : Nat) (a : Addr) (fs : List (List Call)), vs = [.ref a] ∧ Bars n H a fs ∧ fs.length ≤ 100 ∧ ∀ p H', H p = none → Same H H' → Bars n H' p fs → Q (.ref p) H'
theorem rd_lcopy {H : Hp} {Q : VK} {E : XK} {n : Nat} {a : Addr} {fs : List (List Call)} (h : Bars n H a fs) (l : fs.length ≤ 100) (q : ∀ p H', H p = none → Same H H' → Bars n H' p fs → Q (.ref p) H') : spLCopy [.ref a] H Q E := ⟨n, a, fs, rfl, h, l, q⟩
theorem cut_mid (ns : List Int) {a b : Int} (h0 : 0 ≤ a) (h1 : a ≤ b) (h2 : b ≤ ns.length) : ∃ ms : List Int, cutV (ns.map V.int) (some a) (some b) = ms.map V.int ∧ (ms.length : Int) = b - a := by
  refine ⟨(ns.drop a.toNat).take (b.toNat - a.toNat), ?_, by rw [List.length_take, List.length_drop]; omega⟩
  unfold cutV HT.sIx
  dsimp only
  rw [if_neg (by omega), if_neg (by omega), List.map_take, List.map_drop, List.length_map, Nat.min_eq_left (by omega), Nat.min_eq_left (by omega)]
section
variable {P : Program} {w : World} {K : PySem.W.Frag} {mg : Str → Option Value} {base : Heap}
theorem sc__law_figure : FnScope ["_law_d", "_law_spots_here", "_law_most"] ["_law_d", "_law_spots_here", "_law_most"] (defScope s__law_figure) := ⟨rfl, rfl, rfl, by decide +kernel, rfl, by decide +kernel, by decide +kernel⟩
theorem ok__law_figure {f : Addr} {fd : FuncData} (F : Fun K "_law_figure" "_law_figure" s__law_figure f fd) (T : Txt P w K mg)  (F__law_bar : FnAt P w K mg base "_law_bar" 5 spLBar) : FnOk P w K mg base CX0 (5 + 1) f fd ["_law_d", "_law_spots_here", "_law_most"] spLFig := by
  refine F.ok sc__law_figure (fun vs H Q E h => ?_) (fun cdv A outer s H vs Q E hr h => ?_)
  · obtain ⟨a, ms, n, m, rfl, _⟩ := h
    rfl
  · obtain ⟨a, ms, n, m, rfl, ha, hm, hl, hn, k⟩ := h
    refine ⟨_, (pss_one (ps_ret (pe_comp (N := ["_law_k", "_law_spots_here", "_law_d"]) (k := 1) (caps := [1, 0]) rfl (compOk_of ["_law_d", "_law_spots_here", "_law_most"] (defScope s__law_figure).names (by decide +kernel)) (pi_range1 rfl T.n_range (pa_cons (pe_op op_mod (pe_ix ix_list (pv 0) pe_int (fun _ _ => rfl)) (pe_op op_add (pv 2) pe_int)) pa_nil)) (fun _ _ _ _ => (pg_name (i := 0) (show List.Nodup (["_law_k", "_law_spots_here", "_law_d"] : List Str) by decide +kernel) rfl (Or.inl rfl))) (fun _ _ _ _ => pcs_nil) (fun _ _ _ _ => (pe_fn F__law_bar (hr.mono (by omega)) (pa_cons (pe_slice (kSl (r := rSlL) (K := K) sl_list rfl) (pv 2) (po_some (pe_op op_add pe_int (pe_op op_mul pe_int (pv 0)))) po_none) (pa_cons (pv 1) pa_nil))))))), ?_⟩
    walk_at "rd"
    refine i_ixAny ha (by omega) (by rw [List.length_map]; omega) fun v hv => ?_
    obtain ⟨z, _, rfl⟩ := List.mem_map.mp hv
    have z0 : 0 ≤ z % ((m : Int) + 1) := Int.emod_nonneg _ (by omega)
    have z1 : z % ((m : Int) + 1) < (m : Int) + 1 := Int.emod_lt_of_pos _ (by omega)
    walk_at "rd"
    refine ⟨by omega, by omega, comp_rR (R := BarAt n) (fun _ _ => True) ?_ ?_⟩
    · intro D i own H3 ys as hD hi ho s3 e3 hpr la hG
      obtain ⟨o, rfl⟩ : ∃ o, own = [o] := by
        match own, ho with
        | [o], _ => exact ⟨o, rfl⟩
      have hi' : i < m := by omega
      walk_at "rd"
      rename_i p4 H4 hp4 s4 h4
      rw [cut_from ms (by omega)] at h4
      refine rd_lbar h4 (by rw [List.length_drop]; omega) hn fun p5 H5 cs hp5 s5 hcs hb => ?_
      exact yieldR (barStab n) [some (.int (0 + (i : Int)))] (by omega) hi hD s3 e3 hpr la hG (s4.trans s5) ⟨⟨p5, rfl, hcs⟩, hb⟩ trivial rfl rfl
    intro D H3 ys as hD s3 e3 hpr la hG
    exact k _ _ as hD s3 ⟨ys, e3, hpr⟩ (by omega)
theorem sc__law_copied : FnScope ["_law_figure_here"] ["_law_figure_here"] (defScope s__law_copied) := ⟨rfl, rfl, rfl, by decide +kernel, rfl, by decide +kernel, by decide +kernel⟩
theorem ok__law_copied {f : Addr} {fd : FuncData} (F : Fun K "_law_copied" "_law_copied" s__law_copied f fd) (T : Txt P w K mg)   : FnOk P w K mg base CX0 (0 + 1) f fd ["_law_figure_here"] spLCopy := by
  refine F.ok sc__law_copied (fun vs H Q E h => ?_) (fun cdv A outer s H vs Q E hr h => ?_)
  · obtain ⟨n, a, fs, rfl, _⟩ := h
    rfl
  · obtain ⟨n, a, fs, rfl, hfs, hl, k⟩ := h
    refine ⟨_, (pss_one (ps_ret (pe_comp (N := ["_law_bar_here"]) (k := 1) (caps := []) rfl (compOk_of ["_law_figure_here"] (defScope s__law_copied).names (by decide +kernel)) (pi_list (pv 0)) (fun _ _ _ _ => (pg_name (i := 0) (show List.Nodup (["_law_bar_here"] : List Str) by decide +kernel) rfl (Or.inl rfl))) (fun _ _ _ _ => pcs_nil) (fun _ _ _ _ => (pe_callTy (kCall (r := rListL) (K := K) cl_listL rfl) (by rfl) T.n_list bt_list (pa_cons (pv 0) pa_nil)))))), ?_⟩
    obtain ⟨xs, ha, hp⟩ := hfs
    have lx : xs.length = fs.length := hp.length
    walk_at "rd"
    refine ⟨_, rfl, ⟨_, SqL.of ha⟩, comp_lR (R := BarAt n) (fun j cs => fs[j]? = some cs) ha ?_ ?_⟩
    · intro D i x own H3 ys as hD hx ho s3 e3 hpr la hG
      obtain ⟨o, rfl⟩ : ∃ o, own = [o] := by
        match own, ho with
        | [o], _ => exact ⟨o, rfl⟩
      have hi : i < xs.length := (List.getElem?_eq_some_iff.mp hx).1
      obtain ⟨v, cs, ev, ec, hba⟩ := paired_at hp hi
      rw [hx] at ev
      cases ev
      obtain ⟨⟨q, rfl, zs, hq, hz⟩, hb⟩ := (barStab n).mono s3 hba
      walk_at "rd"
      rename_i p4 H4 hp4 s4 h4
      exact yieldR (barStab n) [some (.ref q)] (by omega) hi hD s3 e3 hpr la hG s4 ⟨⟨p4, rfl, zs, h4, callOk_mono s4 hz⟩, hb⟩ ec rfl rfl
    intro D H3 ys as hD s3 e3 hpr la hG
    have ea : as = fs := by
      refine List.ext_getElem? fun i => ?_
      by_cases c : i < as.length
      · have := hG i as[i] (List.getElem?_eq_getElem c)
        rw [this, List.getElem?_eq_getElem c]
      · rw [List.getElem?_eq_none (by omega), List.getElem?_eq_none (by omega)]
    rw [ea] at hpr
    exact k _ _ hD s3 ⟨ys, e3, hpr⟩
end


def Call.back : Call → Call
  | .ring f l m => .ring f l (-m)
  | .chain f l m => if m % 2 = 0 then .chain f l (-m) else .chain f l m
  | .cast f l => .lead f l
  | .lead f l => .cast f l
  | c => c
theorem back_ok {c : Call} {n : Int} (h : c.Ok n) : c.back.Ok n := by
  cases c with
  | ring f l m => simp only [Call.Ok, Call.back] at h ⊢; omega
  | chain f l m =>
    unfold Call.back
    by_cases e : m % 2 = 0
    · simp only [e, if_true, Call.Ok] at h ⊢; omega
    · simp only [e, if_false, Call.Ok] at h ⊢; omega
  | cast f l => exact h
  | lead f l => exact h
  | cross s => exact h
  | pass s d => exact h
  | corner s d => exact h
  | stand m => exact h
def spTurn : Sp := fun vs H Q _ => ∃ (n : Int) (v : V) (c : Call), vs = [.int n, v] ∧ CallAt H v c ∧ spots n ∧ c.Ok n ∧ ∀ v' H', Same H H' → CallAt H' v' c.back → Q v' H'
theorem rd_turn {H : Hp} {Q : VK} {E : XK} {n : Int} {v : V} {c : Call} (h : CallAt H v c) (h1 : spots n) (h2 : c.Ok n) (q : ∀ v' H', Same H H' → CallAt H' v' c.back → Q v' H') : spTurn [.int n, v] H Q E := ⟨n, v, c, rfl, h, h1, h2, q⟩
def spLBack : Sp := fun vs H Q _ => ∃ (v : V) (c : Call), vs = [v] ∧ CallAt H v c ∧ ∀ v' H', Same H H' → CallAt H' v' c.back → Q v' H'
theorem rd_lback {H : Hp} {Q : VK} {E : XK} {v : V} {c : Call} (h : CallAt H v c) (q : ∀ v' H', Same H H' → CallAt H' v' c.back → Q v' H') : spLBack [v] H Q E := ⟨v, c, rfl, h, q⟩

theorem back_tk {c : Call} : c.back.tkI = c.tkI := by
  cases c with
  | chain f l m =>
    have bk : Call.back (.chain f l m) = if m % 2 = 0 then .chain f l (-m) else .chain f l m := rfl
    rw [bk]
    by_cases e : m % 2 = 0
    · rw [if_pos e]; rfl
    · rw [if_neg e]
  | _ => rfl
theorem back_back {c : Call} : c.back.back = c := by
  cases c with
  | ring f l m => show Call.ring f l (- -m) = _; rw [Int.neg_neg]
  | chain f l m =>
    have bk : ∀ m, Call.back (.chain f l m) = if m % 2 = 0 then .chain f l (-m) else .chain f l m := fun _ => rfl
    rw [bk]
    by_cases e : m % 2 = 0
    · rw [if_pos e, bk, if_pos (by omega), Int.neg_neg]
    · rw [if_neg e, bk, if_neg e]
  | _ => rfl
def bkB (cs : List Call) : List Call := cs.map Call.back
def bkF (fs : List (List Call)) : List (List Call) := fs.reverse.map bkB
theorem bkB_ok {n : Int} {cs : List Call} (h : BarOk n cs) : BarOk n (bkB cs) := by
  refine ⟨fun z => h.one (List.map_eq_nil_iff.mp z), by unfold bkB; rw [List.length_map]; exact h.four, fun c hc => ?_, ?_⟩
  · obtain ⟨d, hd, rfl⟩ := List.mem_map.mp hc
    exact back_ok (h.ok d hd)
  · unfold bkB
    rw [List.pairwise_map]
    exact h.apart.imp fun {a b} hab => by rw [back_tk, back_tk]; exact hab
theorem bkF_bkF {fs : List (List Call)} : bkF (bkF fs) = fs := by
  have key : ∀ cs : List Call, bkB (bkB cs) = cs := fun cs => by
    unfold bkB
    rw [List.map_map]
    have := List.map_congr_left (l := cs) (f := Call.back ∘ Call.back) (g := id) fun c _ => back_back
    rw [this, List.map_id]
  unfold bkF
  rw [← List.map_reverse, List.reverse_reverse, List.map_map]
  have := List.map_congr_left (l := fs) (f := bkB ∘ bkB) (g := id) fun cs _ => key cs
  rw [this, List.map_id]

def BarAtF (n : Nat) (H0 : Hp) (H : Hp) (v : V) (cs : List Call) : Prop := BarAt n H v cs ∧ ∃ q, v = .ref q ∧ H0 q = none
theorem barStabF (n : Nat) (H0 : Hp) : Stab (BarAtF n H0) where
  mono := fun s h => ⟨(barStab n).mono s h.1, h.2⟩
  rf := fun h => (barStab n).rf h.1
  wr := fun hr hD h => ⟨(barStab n).wr (Paired.mapP hr fun _ _ q => q.1) hD h.1, h.2⟩
def spTurnedF : Sp := fun vs H Q _ => ∃ (n : Nat) (a : Addr) (fs : List (List Call)), vs = [.int n, .ref a] ∧ spots n ∧ Bars n H a fs ∧ fs.length ≤ 16 ∧ ∀ p H' xs, H p = none → Same H H' → H' p = some (.lst xs) → Paired (BarAtF n H H') xs (bkF fs) → Q (.ref p) H'
theorem rd_turned {H : Hp} {Q : VK} {E : XK} {n : Nat} {a : Addr} {fs : List (List Call)} (hn : spots n) (h : Bars n H a fs) (hl : fs.length ≤ 16) (q : ∀ p H' xs, H p = none → Same H H' → H' p = some (.lst xs) → Paired (BarAtF n H H') xs (bkF fs) → Q (.ref p) H') : spTurnedF [.int n, .ref a] H Q E := ⟨n, a, fs, rfl, hn, h, hl, q⟩
theorem barsF {n : Nat} {H0 H : Hp} {p : Addr} {xs : List V} {fs : List (List Call)} (h : H p = some (.lst xs)) (pr : Paired (BarAtF n H0 H) xs fs) : Bars n H p fs := ⟨xs, h, Paired.mapP pr fun _ _ q => q.1⟩
def Spoil (H0 H : Hp) (pf : Addr) (i : Nat) (xs : List V) : Prop := ∀ x ∈ xs, ∃ q zs, x = .ref q ∧ H q = some (.lst zs) ∧ zs.length ≤ 4 + i ∧ H0 q = none ∧ q ≠ pf
theorem spoil_0 {n : Nat} {H0 H : Hp} {pf : Addr} : ∀ {xs : List V} {fs : List (List Call)}, H pf = some (.lst xs) → Paired (BarAtF n H0 H) xs fs → Spoil H0 H pf 0 xs := fun {xs fs} hp pr x hx => by
  obtain ⟨i, hi, rfl⟩ := List.mem_iff_getElem.mp hx
  obtain ⟨v, cs, ev, ec, ⟨⟨q, rfl, zs, hq, hz⟩, hb⟩, q', e', h0⟩ := paired_at pr hi
  rw [List.getElem?_eq_getElem hi] at ev
  cases e'
  refine ⟨q, zs, Option.some.inj ev, hq, by rw [hz.length]; exact hb.four, h0, fun z => ?_⟩
  rw [z, hp] at hq
  have exy : xs = zs := HO.lst.inj (Option.some.inj hq)
  subst exy
  cases hz with
  | nil => exact hb.one rfl
  | cons r1 t1 =>
    cases pr with
    | cons r2 t2 =>
      obtain ⟨⟨a, e1, h1⟩, _⟩ := r1
      obtain ⟨⟨⟨b, e2, ys', h2, _⟩, _⟩, _⟩ := r2
      rw [e1] at e2
      cases e2
      rw [h1] at h2; cases h2
theorem bars_len {fs : List (List Call)} : (bkF fs).length = fs.length := by unfold bkF; rw [List.length_map, List.length_reverse]

local macro_rules | `(tactic| walk_at "rd1") => `(tactic| with_reducible refine i_compV ?_)
section
variable {P : Program} {w : World} {K : PySem.W.Frag} {mg : Str → Option Value} {base : Heap}
theorem sc_turned_call : FnScope ["spots", "call", "word"] ["spots", "call"] (defScope s_turned_call) := ⟨rfl, rfl, rfl, by decide +kernel, rfl, by decide +kernel, by decide +kernel⟩
theorem ok_turned_call {f : Addr} {fd : FuncData} (F : Fun K "turned_call" "turned_call" s_turned_call f fd) (T : Txt P w K mg)  (F_look_call : FnAt P w K mg base "look_call" 3 spCall) : FnOk P w K mg base CX0 (3 + 1) f fd ["spots", "call"] spTurn := by
  refine F.ok sc_turned_call (fun vs H Q E h => ?_) (fun cdv A outer s H vs Q E hr h => ?_)
  · obtain ⟨n, v, c, rfl, _⟩ := h
    rfl
  · obtain ⟨n, v, c, rfl, hca, hns, hok, k⟩ := h
    refine ⟨_, (pss_cons (ps_expr (pe_fn F_look_call (hr.mono (by omega)) (pa_cons (pv 0) (pa_cons (pv 1) pa_nil))))
      (pss_cons (ps_set (i := 2) sc_turned_call.nd rfl (Or.inl rfl) (pe_ix ix_tup (pv 1) pe_int (fun _ _ => rfl)))
      (pss_cons (ps_if (pt_cmpR op_eq (pv 2) pe_str (nomark _))
      (pss_one (ps_ret (pe_tup (pa_cons pe_str (pa_cons (pe_ix ix_tup (pv 1) pe_int (fun _ _ => rfl)) (pa_cons (pe_ix ix_tup (pv 1) pe_int (fun _ _ => rfl)) pa_nil))))))
      pss_nil)
      (pss_cons (ps_if (pt_cmpR op_eq (pv 2) pe_str (nomark _))
      (pss_one (ps_ret (pe_tup (pa_cons pe_str (pa_cons (pe_ix ix_tup (pv 1) pe_int (fun _ _ => rfl)) (pa_cons (pe_ix ix_tup (pv 1) pe_int (fun _ _ => rfl)) pa_nil))))))
      pss_nil)
      (pss_cons (ps_if ((pw_or (pt_cmpR op_eq (pv 2) pe_str (nomark _)) (pw_or1 ((pw_and (pt_cmpR op_eq (pv 2) pe_str (nomark _)) (pw_and1 (pt_cmpR op_eq (pe_op op_mod (pe_ix ix_tup (pv 1) pe_int (fun _ _ => rfl)) pe_int) pe_int (nomark _))))).pt))).pt
      (pss_one (ps_ret (pe_tup (pa_cons (pv 2) (pa_cons (pe_ix ix_tup (pv 1) pe_int (fun _ _ => rfl)) (pa_cons (pe_ix ix_tup (pv 1) pe_int (fun _ _ => rfl)) (pa_cons (pe_un un_neg (pe_ix ix_tup (pv 1) pe_int (fun _ _ => rfl))) pa_nil)))))))
      pss_nil)
      (pss_one (ps_ret (pv 1)))))))), ?_⟩
    obtain ⟨a, rfl, ha⟩ := id hca
    have hc := hok
    obtain ⟨n1, n2⟩ := id hns
    cases c with
    | ring fi la m =>
      simp only [Call.word, Call.nums, Call.Ok] at ha hc
      walk_at "rd"
      exact k _ _ (by walk_at "sm") ⟨_, rfl, by walk_at "hp"⟩
    | chain fi la m =>
      simp only [Call.word, Call.nums, Call.Ok] at ha hc
      walk_at "rd"
      refine ite2 (fun cc => ?_) (fun cc => ?_)
      · have c1 : m % 2 = 0 := V.int.inj (of_decide_eq_true cc)
        walk_at "rd"
        refine k _ _ (by walk_at "sm") ⟨_, rfl, ?_⟩
        simp only [Call.back, c1, if_true, Call.word, Call.nums]
        walk_at "hp"
      · have c1 : ¬ m % 2 = 0 := fun z => cc (decide_eq_true (congrArg V.int z))
        walk_at "rd"
        refine k _ _ (by walk_at "sm") ⟨_, rfl, ?_⟩
        simp only [Call.back, c1, if_false, Call.word, Call.nums]
        walk_at "hp"
    | cross sp =>
      simp only [Call.word, Call.nums, Call.Ok] at ha hc
      walk_at "rd"
      exact k _ _ (by walk_at "sm") (by walk_at "ca")
    | pass sp d =>
      simp only [Call.word, Call.nums, Call.Ok] at ha hc
      walk_at "rd"
      exact k _ _ (by walk_at "sm") (by walk_at "ca")
    | corner sp d =>
      simp only [Call.word, Call.nums, Call.Ok] at ha hc
      walk_at "rd"
      exact k _ _ (by walk_at "sm") (by walk_at "ca")
    | cast fi la =>
      simp only [Call.word, Call.nums, Call.Ok] at ha hc
      walk_at "rd"
      exact k _ _ (by walk_at "sm") ⟨_, rfl, by walk_at "hp"⟩
    | lead fi la =>
      simp only [Call.word, Call.nums, Call.Ok] at ha hc
      walk_at "rd"
      exact k _ _ (by walk_at "sm") ⟨_, rfl, by walk_at "hp"⟩
    | stand m =>
      simp only [Call.word, Call.nums, Call.Ok] at ha hc
      walk_at "rd"
      exact k _ _ (by walk_at "sm") (by walk_at "ca")
theorem sc__law_back_call : FnScope ["_law_call_here"] ["_law_call_here"] (defScope s__law_back_call) := ⟨rfl, rfl, rfl, by decide +kernel, rfl, by decide +kernel, by decide +kernel⟩
theorem ok__law_back_call {f : Addr} {fd : FuncData} (F : Fun K "_law_back_call" "_law_back_call" s__law_back_call f fd) (T : Txt P w K mg)   : FnOk P w K mg base CX0 (0 + 1) f fd ["_law_call_here"] spLBack := by
  refine F.ok sc__law_back_call (fun vs H Q E h => ?_) (fun cdv A outer s H vs Q E hr h => ?_)
  · obtain ⟨v, c, rfl, _⟩ := h
    rfl
  · obtain ⟨v, c, rfl, hca, k⟩ := h
    show ∃ t, PSs _ [_, _, _] t ∧ _
    generalize hE : Expr.Dict [some (Expr.Constant (Const.str "cast") 0 ⟨174, 17, 174, 23⟩), some (Expr.Constant (Const.str "lead") 0 ⟨174, 33, 174, 39⟩)] [(Expr.Constant (Const.str "lead") 0 ⟨174, 25, 174, 31⟩), (Expr.Constant (Const.str "cast") 0 ⟨174, 41, 174, 47⟩)] ⟨174, 16, 174, 48⟩ = E
    refine ⟨_, (pss_cons (ps_if (pt_cmpR op_in_seq (pe_ix ix_tup (pv 0) pe_int (fun _ _ => rfl)) (pe_lst (pa_cons pe_str (pa_cons pe_str pa_nil))) rfl)
      (pss_one (ps_ret (pe_op op_catT (pe_tup (pa_cons (pe_dget (hu_of hr) (hE ▸ (pe_disp (pps_cons pe_str pe_str (pps_cons pe_str pe_str pps_nil)) rfl rfl (by simp) (by decide))) (pe_ix ix_tup (pv 0) pe_int (fun _ _ => rfl)) (fun _ _ => rfl)) pa_nil star_sub)) (pe_slice sl_tup (pv 0) (po_some pe_int) po_none))))
      pss_nil)
      (pss_cons (ps_if ((pw_or (pt_cmpR op_eq (pe_ix ix_tup (pv 0) pe_int (fun _ _ => rfl)) pe_str (nomark _)) (pw_or1 ((pw_and (pt_cmpR op_eq (pe_ix ix_tup (pv 0) pe_int (fun _ _ => rfl)) pe_str (nomark _)) (pw_and1 (pt_cmpR op_eq (pe_op op_mod (pe_ix ix_tup (pv 0) pe_int (fun _ _ => rfl)) pe_int) pe_int (nomark _))))).pt))).pt
      (pss_one (ps_ret (pe_op op_catT (pe_slice sl_tup (pv 0) po_none (po_some pe_int)) (pe_tup (pa_cons (pe_un un_neg (pe_ix ix_tup (pv 0) pe_int (fun _ _ => rfl))) pa_nil)))))
      pss_nil)
      (pss_one (ps_ret (pv 0))))), ?_⟩
    obtain ⟨a, rfl, ha⟩ := id hca
    cases c with
    | ring fi la m =>
      simp only [Call.word, Call.nums, Call.Ok] at ha
      walk_at "rd"
      rename_i p4 H4 hp4 s4 e4 p5 H5 hp5 s5 e5
      refine i_catT (s5 _ _ e4) e5 (by intro z; cases z) (by intro z; cases z) (Nat.le_trans (Nat.le_of_ble_eq_true rfl) k1000) fun p6 H6 hp6 s6 e6 => ?_
      exact k _ _ (by walk_at "sm") ⟨_, rfl, e6⟩
    | chain fi la m =>
      simp only [Call.word, Call.nums, Call.Ok] at ha
      walk_at "rd"
      refine ite2 (fun cc => ?_) (fun cc => ?_)
      · have c1 : m % 2 = 0 := V.int.inj (of_decide_eq_true cc)
        walk_at "rd"
        rename_i p4 H4 hp4 s4 e4 p5 H5 hp5 s5 e5
        refine i_catT (s5 _ _ e4) e5 (by intro z; cases z) (by intro z; cases z) (Nat.le_trans (Nat.le_of_ble_eq_true rfl) k1000) fun p6 H6 hp6 s6 e6 => ?_
        refine k _ _ (by walk_at "sm") ⟨_, rfl, ?_⟩
        simp only [Call.back, c1, if_true, Call.word, Call.nums]
        exact e6
      · have c1 : ¬ m % 2 = 0 := fun z => cc (decide_eq_true (congrArg V.int z))
        walk_at "rd"
        refine k _ _ (by walk_at "sm") ⟨_, rfl, ?_⟩
        simp only [Call.back, c1, if_false, Call.word, Call.nums]
        walk_at "hp"
    | cross sp =>
      simp only [Call.word, Call.nums, Call.Ok] at ha
      walk_at "rd"
      exact k _ _ (by walk_at "sm") (by walk_at "ca")
    | pass sp d =>
      simp only [Call.word, Call.nums, Call.Ok] at ha
      walk_at "rd"
      exact k _ _ (by walk_at "sm") (by walk_at "ca")
    | corner sp d =>
      simp only [Call.word, Call.nums, Call.Ok] at ha
      walk_at "rd"
      exact k _ _ (by walk_at "sm") (by walk_at "ca")
    | cast fi la =>
      simp only [Call.word, Call.nums, Call.Ok] at ha
      walk_at "rd"
      rename_i p1 H1 hp1 s1 e1
      intro pd hpd
      refine ⟨upd_same, [(Sum.inr "cast", V.str "lead"), (Sum.inr "lead", V.str "cast")], rfl, by decide, ?_⟩
      rw [upd_upd]
      have s2 : Same H1 (upd H1 pd (.dK (mergeK [] [(Sum.inr "cast", V.str "lead"), (Sum.inr "lead", V.str "cast")]))) := same_upd hpd
      have h2 : upd H1 pd (.dK (mergeK [] [(Sum.inr "cast", V.str "lead"), (Sum.inr "lead", V.str "cast")])) pd = some (.dK (mergeK [] [(Sum.inr "cast", V.str "lead"), (Sum.inr "lead", V.str "cast")])) := upd_same
      generalize upd H1 pd (.dK (mergeK [] [(Sum.inr "cast", V.str "lead"), (Sum.inr "lead", V.str "cast")])) = H2 at s2 h2
      walk_at "rd"
      refine ⟨pd, _, rfl, DGet.k (k := Sum.inr "cast") h2, ?_⟩
      walk_at "rd"
      rename_i p3 H3 hp3 s3 e3 p4 H4 hp4 s4 e4
      refine i_catT (by walk_at "hp") e4 (by intro z; cases z) (by intro z; cases z) (Nat.le_trans (Nat.le_of_ble_eq_true rfl) k1000) fun p5 H5 hp5 s5 e5 => ?_
      exact k _ _ (by walk_at "sm") ⟨_, rfl, e5⟩
    | lead fi la =>
      simp only [Call.word, Call.nums, Call.Ok] at ha
      walk_at "rd"
      rename_i p1 H1 hp1 s1 e1
      intro pd hpd
      refine ⟨upd_same, [(Sum.inr "cast", V.str "lead"), (Sum.inr "lead", V.str "cast")], rfl, by decide, ?_⟩
      rw [upd_upd]
      have s2 : Same H1 (upd H1 pd (.dK (mergeK [] [(Sum.inr "cast", V.str "lead"), (Sum.inr "lead", V.str "cast")]))) := same_upd hpd
      have h2 : upd H1 pd (.dK (mergeK [] [(Sum.inr "cast", V.str "lead"), (Sum.inr "lead", V.str "cast")])) pd = some (.dK (mergeK [] [(Sum.inr "cast", V.str "lead"), (Sum.inr "lead", V.str "cast")])) := upd_same
      generalize upd H1 pd (.dK (mergeK [] [(Sum.inr "cast", V.str "lead"), (Sum.inr "lead", V.str "cast")])) = H2 at s2 h2
      walk_at "rd"
      refine ⟨pd, _, rfl, DGet.k (k := Sum.inr "lead") h2, ?_⟩
      walk_at "rd"
      rename_i p3 H3 hp3 s3 e3 p4 H4 hp4 s4 e4
      refine i_catT (by walk_at "hp") e4 (by intro z; cases z) (by intro z; cases z) (Nat.le_trans (Nat.le_of_ble_eq_true rfl) k1000) fun p5 H5 hp5 s5 e5 => ?_
      exact k _ _ (by walk_at "sm") ⟨_, rfl, e5⟩
    | stand m =>
      simp only [Call.word, Call.nums, Call.Ok] at ha
      walk_at "rd"
      exact k _ _ (by walk_at "sm") (by walk_at "ca")
theorem sc_turned : FnScope ["spots", "figure"] ["spots", "figure"] (defScope s_turned) := ⟨rfl, rfl, rfl, by decide +kernel, rfl, by decide +kernel, by decide +kernel⟩
theorem ok_turned {f : Addr} {fd : FuncData} (F : Fun K "turned" "turned" s_turned f fd) (T : Txt P w K mg)  (F_look_figure : FnAt P w K mg base "look_figure" 6 spLookFig) (F_turned_call : FnAt P w K mg base "turned_call" 4 spTurn) : FnOk P w K mg base CX0 (6 + 1) f fd ["spots", "figure"] spTurnedF := by
  refine F.ok sc_turned (fun vs H Q E h => ?_) (fun cdv A outer s H vs Q E hr h => ?_)
  · obtain ⟨n, a, fs, rfl, _⟩ := h
    rfl
  · obtain ⟨n, a, fs, rfl, hn, hfs, hl, k⟩ := h
    refine ⟨_, (pss_cons (ps_expr (pe_fn F_look_figure (hr.mono (by omega)) (pa_cons (pv 0) (pa_cons (pv 1) pa_nil))))
      (pss_one (ps_ret (pe_comp (N := ["bar", "spots"]) (k := 1) (caps := [0]) rfl (compOk_of ["spots", "figure"] (defScope s_turned).names (by decide +kernel)) (pi_rev rfl T.n_reversed (pa_cons (pv 1) pa_nil)) (fun _ _ _ _ => (pg_name (i := 0) (show List.Nodup (["bar", "spots"] : List Str) by decide +kernel) rfl (Or.inl rfl))) (fun _ _ _ _ => pcs_nil) (fun _ _ _ _ => (pe_comp (N := ["call", "spots"]) (k := 1) (caps := [1]) rfl (compOk_of ["bar", "spots"] [(Str.ofString ".0", NameKind.local), (Str.ofString "bar", NameKind.local), (Str.ofString "spots", NameKind.cell)] (by decide +kernel)) (pi_listK (K := K) rfl (pv 0)) (fun _ _ _ _ => (pg_name (i := 0) (show List.Nodup (["call", "spots"] : List Str) by decide +kernel) rfl (Or.inl rfl))) (fun _ _ _ _ => pcs_nil) (fun _ _ _ _ => (pe_fn F_turned_call (hr.mono (by omega)) (pa_cons (pv 1) (pa_cons (pv 0) pa_nil)))))))))), ?_⟩
    obtain ⟨n1, n2⟩ := id hn
    walk_at "rd"
    refine rd_lookfig hn hfs hl fun H1 s1 => ?_
    obtain ⟨xs, ha, hp⟩ := hfs.same s1
    have lx : xs.length = fs.length := hp.length
    have hp' := pr_rev hp
    walk_at "rd"
    refine ⟨_, _, rfl, SqL.of ha, comp_vR (R := BarAtF n H) (fun j w => w = (((fs.reverse[j]?).map bkB).getD [])) ha ?_ ?_⟩
    · intro D i x own H3 ys as hD hi hx ho s3 e3 hpr la hG
      obtain ⟨o, rfl⟩ : ∃ o, own = [o] := by
        match own, ho with
        | [o], _ => exact ⟨o, rfl⟩
      obtain ⟨v, cs, ev, ec, hba⟩ := paired_at hp' (by rw [List.length_reverse]; exact hi)
      rw [hx] at ev
      cases ev
      obtain ⟨⟨q, rfl, zs, hq, hz⟩, hb⟩ := (barStab n).mono s3 hba
      have lz : zs.length = cs.length := hz.length
      have l4 := hb.four
      walk_at "rd"
      refine ⟨_, rfl, ⟨_, SqL.of hq⟩, comp_lR (R := CallOk n) (fun j w => w = (((cs[j]?).map Call.back).getD (.stand 1))) hq ?_ ?_⟩
      · intro D' j x own H4 ys' as' hD' hx ho s4 e4 hpr' la' hG'
        obtain ⟨o', rfl⟩ : ∃ o, own = [o] := by
          match own, ho with
          | [o], _ => exact ⟨o, rfl⟩
        have hj : j < zs.length := (List.getElem?_eq_some_iff.mp hx).1
        obtain ⟨v, c, ev, ec', hca, hok'⟩ := paired_at hz hj
        rw [hx] at ev
        cases ev
        walk_at "rd"
        refine rd_turn (c := c) (hca.same s4) hn hok' fun v5 H5 s5 h5 => ?_
        exact yieldR (callStab n) [some x] (by omega) hj hD' s4 e4 hpr' la' hG' s5 ⟨h5, back_ok hok'⟩ (by rw [ec']; rfl) rfl rfl
      intro D' H4 ys' as' hD' s4 e4 hpr' la' hG'
      have ea : as' = bkB cs := by
        rw [as_map la' hG', lz]
        exact map_ix Call.back (.stand 1) cs
      rw [ea] at hpr'
      exact yieldR (barStabF n H) [some (.ref q)] (by omega) hi hD s3 e3 hpr la hG s4 ⟨⟨⟨D', rfl, ys', e4, hpr'⟩, bkB_ok hb⟩, D', rfl, s1.free (s3.free hD')⟩ (by rw [ec]; rfl) rfl rfl
    intro D H3 ys as hD s3 e3 hpr la hG
    have ea : as = bkF fs := by
      rw [as_map la hG, lx, ← List.length_reverse, map_ix bkB [] fs.reverse]
      rfl
    rw [ea] at hpr
    exact k _ _ ys (s1.free hD) (s1.trans s3) e3 hpr
end

def spLaw (K : PySem.W.Frag) : Sp := fun vs H Q _ => ∃ (a : Addr) (ns : List Int), vs = [.ref a] ∧ SqL K H a (ns.map V.int) ∧ ns.length ≤ 63 ∧ ∀ H', Q (.bl true) H'

theorem i_notN {H : Hp} {Q : VK} {x : V} (q : Q (.bl (!decide (x = .non))) H) : (fun x y H Q => y = V.non ∧ Q (.bl (!decide (x = .non))) H : R2) x .non H Q := ⟨rfl, q⟩

theorem h4us {H : Hp} {q : Addr} {us vs : List V} (h : H q = some (.lst us)) (h' : H q = some (.lst vs)) : vs = us := by
  rw [h] at h'; exact (HO.lst.inj (Option.some.inj h')).symm
local macro_rules | `(tactic| walk_at "rd1") => `(tactic| with_reducible refine i_notN ?_)
section
variable {P : Program} {w : World} {K : PySem.W.Frag} {mg : Str → Option Value} {base : Heap}
theorem sc_law : FnScope ["_law_script", "_law_numbers_here", "_law_k", "_law_d", "_law_spots_here", "_law_figure_here", "_law_handed", "_law_due", "_law_found", "_law_bar_here"] ["_law_script"] (defScope s_law) := ⟨rfl, rfl, rfl, by decide +kernel, rfl, by decide +kernel, by decide +kernel⟩
theorem ok_law {f : Addr} {fd : FuncData} (F : Fun K "law" "law" s_law f fd) (T : Txt P w K mg)  (F__law_numbers : FnAt P w K mg base "_law_numbers" 1 (spNum K)) (F__law_spots : FnAt P w K mg base "_law_spots" 1 spSpots) (F__law_figure : FnAt P w K mg base "_law_figure" 6 spLFig) (F__law_copied : FnAt P w K mg base "_law_copied" 1 spLCopy) (F__law_back_call : FnAt P w K mg base "_law_back_call" 1 spLBack) (F_turned : FnAt P w K mg base "turned" 7 spTurnedF) (F_look_figure : FnAt P w K mg base "look_figure" 6 spLookFig) (F__law_same : FnAt P w K mg base "_law_same" 4 (spSame 4)) : FnOk P w K mg base CX0 (7 + 1) f fd ["_law_script"] (spLaw K) := by
  refine F.ok sc_law (fun vs H Q E h => ?_) (fun cdv A outer s H vs Q E hr h => ?_)
  · obtain ⟨a, ns, rfl, _⟩ := h
    rfl
  · obtain ⟨a, ns, rfl, hS, hl, k⟩ := h
    refine ⟨_, (pss_cons (ps_set (i := 1) sc_law.nd rfl (Or.inl rfl) (pe_fn F__law_numbers (hr.mono (by omega)) (pa_cons (pv 0) (pa_cons pe_int pa_nil))))
      (pss_cons (ps_for PassesOwn.never rfl (pi_range1 rfl T.n_range (pa_cons pe_int pa_nil)) (pg_name (i := 2) sc_law.nd rfl (Or.inl rfl))
      (pss_cons (ps_set (i := 3) sc_law.nd rfl (Or.inl rfl) (pe_slice sl_list (pv 1) (po_some (pe_op op_mul pe_int (pv 2))) (po_some (pe_op op_add (pe_op op_mul pe_int (pv 2)) pe_int))))
      (pss_cons (ps_set (i := 4) sc_law.nd rfl (Or.inl rfl) (pe_fn F__law_spots (hr.mono (by omega)) (pa_cons (pe_ix ix_list (pv 3) pe_int (fun _ _ => rfl)) pa_nil)))
      (pss_cons (ps_set (i := 5) sc_law.nd rfl (Or.inl rfl) (pe_fn F__law_figure (hr.mono (by omega)) (pa_cons (pe_slice sl_list (pv 3) (po_some pe_int) po_none) (pa_cons (pv 4) (pa_cons (pe_ix ix_list (pe_lst (pa_cons pe_int (pa_cons pe_int (pa_cons pe_int pa_nil)))) (pv 2) (fun _ _ => rfl)) pa_nil)))))
      (pss_cons (ps_set (i := 6) sc_law.nd rfl (Or.inl rfl) (pe_fn F__law_copied (hr.mono (by omega)) (pa_cons (pv 5) pa_nil)))
      (pss_cons (ps_setC (iy := 7) (N := ["_law_bar_here"]) (k := 1) (caps := []) rfl (compOk_of ["_law_script", "_law_numbers_here", "_law_k", "_law_d", "_law_spots_here", "_law_figure_here", "_law_handed", "_law_due", "_law_found", "_law_bar_here"] (defScope s_law).names (by decide +kernel)) (pi_list (pe_rev (pv 5))) (fun _ _ _ _ => (pg_name (i := 0) (show List.Nodup (["_law_bar_here"] : List Str) by decide +kernel) rfl (Or.inl rfl))) (fun _ _ _ _ => pcs_nil) (fun _ _ _ _ => (pe_comp (N := ["_law_call_here"]) (k := 1) (caps := []) rfl (compOk_of ["_law_bar_here"] [(Str.ofString ".0", NameKind.local), (Str.ofString "_law_bar_here", NameKind.local)] (by decide +kernel)) (pi_listK (K := K) rfl (pv 0)) (fun _ _ _ _ => (pg_name (i := 0) (show List.Nodup (["_law_call_here"] : List Str) by decide +kernel) rfl (Or.inl rfl))) (fun _ _ _ _ => pcs_nil) (fun _ _ _ _ => (pe_fn F__law_back_call (hr.mono (by omega)) (pa_cons (pv 0) pa_nil))))) sc_law.nd rfl (Or.inl rfl))
      (pss_cons (ps_set (i := 8) sc_law.nd rfl (Or.inl rfl) (pe_fn F_turned (hr.mono (by omega)) (pa_cons (pv 4) (pa_cons (pv 6) pa_nil))))
      (pss_cons (ps_if ((pw_or (pt_not (pt_val (pe_fn F__law_same (hr.mono (by omega)) (pa_cons (pv 8) (pa_cons (pv 7) pa_nil))))) (pw_or (pt_cmpR (op_neD hr.units) (pv 6) (pv 5) (nomark _)) (pw_or1 (pt_cmpR op_notN (pe_fn F_look_figure (hr.mono (by omega)) (pa_cons (pv 4) (pa_cons (pv 8) pa_nil))) pe_non (nomark _)))))).pt
      (pss_one (ps_ret pe_bl))
      pss_nil)
      (pss_cons (ps_for PassesOwn.never rfl (pi_list (pv 8)) (pg_name (i := 9) sc_law.nd rfl (Or.inl rfl))
      (pss_one (ps_expr (pe_bm PySem.F.plainAttrs_list PySem.F.slot_list_append PySem.F.type_list_append mt_append (pv 9) (pa_cons (pe_tup (pa_cons pe_str (pa_cons pe_int pa_nil))) pa_nil)))))
      (pss_one (ps_if ((pw_or (pt_cmpR (op_neD hr.units) (pv 6) (pv 5) (nomark _)) (pw_or1 (pt_not (pt_val (pe_fn F__law_same (hr.mono (by omega)) (pa_cons (pe_fn F_turned (hr.mono (by omega)) (pa_cons (pv 4) (pa_cons (pv 7) pa_nil))) (pa_cons (pv 5) pa_nil)))))))).pt
      (pss_one (ps_ret pe_bl))
      pss_nil)))))))))))
      (pss_one (ps_ret pe_bl)))), ?_⟩
    walk_at "rd"
    refine rd_num hS (by decide) (by decide) fun p H1 ms s1 h1 l1 _ => ?_
    walk_at "rd"
    refine ⟨by decide, by decide, for_r (fun i σ H2 => ∃ o1 o2 o3 o4 o5 o6 o7 o8, σ = [some (.ref a), some (.ref p), o1, o2, o3, o4, o5, o6, o7, o8] ∧ H2 p = some (.lst (ms.map V.int))) ⟨none, none, none, none, none, none, none, none, rfl, h1⟩ ?_ ?_⟩
    · rintro i0 σ H2 hi0 ⟨o1, o2, o3, o4, o5, o6, o7, o8, rfl, h2⟩
      have hi' : i0 < 3 := hi0
      walk_at "rd"
      rename_i p3 H3 hp3 s3 h3
      obtain ⟨ds, eds, lds⟩ := cut_mid ms (a := 280 * (0 + (i0 : Int))) (b := 280 * (0 + (i0 : Int)) + 280) (by omega) (by omega) (by omega)
      rw [eds] at h3
      refine i_ixAny h3 (by omega) (by rw [List.length_map]; omega) fun v hv => ?_
      obtain ⟨z, _, rfl⟩ := List.mem_map.mp hv
      walk_at "rd"
      refine rd_spots fun sn H4 hsn s4 => ?_
      obtain ⟨n, rfl⟩ : ∃ n : Nat, sn = n := ⟨sn.toNat, by obtain ⟨n1, n2⟩ := hsn; omega⟩
      obtain ⟨n1, n2⟩ := id hsn
      walk_at "rd"
      rename_i p5 H5 hp5 s5 h5 p6 H6 hp6 s6 h6
      rw [cut_from ds (by omega)] at h5
      refine i_ixAny h6 (by omega) (by show _ < (3 : Int); omega) fun v hv => ?_
      simp only [List.mem_cons, List.not_mem_nil, or_false] at hv
      obtain ⟨m, rfl, hm⟩ : ∃ m : Nat, v = .int m ∧ m ≤ 16 := by
        rcases hv with rfl | rfl | rfl
        · exact ⟨3, rfl, by decide⟩
        · exact ⟨16, rfl, by decide⟩
        · exact ⟨5, rfl, by decide⟩
      walk_at "rd"
      refine rd_lfig (s6 _ _ h5) hm (by rw [List.length_drop]; omega) hsn fun pf H7 fs hpf s7 hfs lf => ?_
      have q7 : H7 p = some (.lst (ms.map V.int)) := s7 _ _ (s6 _ _ (s5 _ _ (s4 _ _ (s3 _ _ h2))))
      clear s3 s4 s5 s6 s7 h3 h5 h6
      walk_at "rd"
      refine rd_lcopy hfs (by omega) fun ph H8 hph s8 hch => ?_
      have hok : ∀ cs ∈ fs, BarOk n cs := by obtain ⟨_, _, pr⟩ := hfs; exact bars_ok pr
      have hf8 := hfs.same s8
      have q8 := s8 _ _ q7
      clear s8 hfs q7
      obtain ⟨xs, hxs, hpr0⟩ := id hf8
      have lx : xs.length = fs.length := hpr0.length
      walk_at "rd"
      rename_i pv H9 hpv s9 h9
      have hp' := barAt_mono s9 (pr_rev hpr0)
      have lr : xs.reverse.length = fs.length := by rw [List.length_reverse, lx]
      refine ⟨_, rfl, ⟨_, SqL.of h9⟩, comp_lR (R := BarAt n) (fun j w => w = (((fs.reverse[j]?).map bkB).getD [])) h9 ?_ ?_⟩
      · intro D i x own H3 ys as hD hx ho s3 e3 hpr la hG
        obtain ⟨o, rfl⟩ : ∃ o, own = [o] := by
          match own, ho with
          | [o], _ => exact ⟨o, rfl⟩
        have hi : i < xs.reverse.length := (List.getElem?_eq_some_iff.mp hx).1
        obtain ⟨v, cs, ev, ec, hba⟩ := paired_at hp' hi
        rw [hx] at ev
        cases ev
        obtain ⟨⟨q, rfl, zs, hq, hz⟩, hb⟩ := (barStab n).mono s3 hba
        have lz : zs.length = cs.length := hz.length
        have l4 := hb.four
        walk_at "rd"
        refine ⟨_, rfl, ⟨_, SqL.of hq⟩, comp_lR (R := CallOk n) (fun j w => w = (((cs[j]?).map Call.back).getD (.stand 1))) hq ?_ ?_⟩
        · intro D' j x own H4 ys' as' hD' hx ho s4 e4 hpr' la' hG'
          obtain ⟨o', rfl⟩ : ∃ o, own = [o] := by
            match own, ho with
            | [o], _ => exact ⟨o, rfl⟩
          have hj : j < zs.length := (List.getElem?_eq_some_iff.mp hx).1
          obtain ⟨v, c, ev, ec', hca, hok'⟩ := paired_at hz hj
          rw [hx] at ev
          cases ev
          walk_at "rd"
          refine rd_lback (c := c) (hca.same s4) fun v5 H5 s5 h5 => ?_
          exact yieldR (callStab n) [some x] (by omega) hj hD' s4 e4 hpr' la' hG' s5 ⟨h5, back_ok hok'⟩ (by rw [ec']; rfl) rfl rfl
        intro D' H4 ys' as' hD' s4 e4 hpr' la' hG'
        have ea : as' = bkB cs := by
          rw [as_map la' hG', lz]
          exact map_ix Call.back (.stand 1) cs
        rw [ea] at hpr'
        exact yieldR (barStab n) [some (.ref q)] (by omega) hi hD s3 e3 hpr la hG s4 ⟨⟨D', rfl, ys', e4, hpr'⟩, bkB_ok hb⟩ (by rw [ec]; rfl) rfl rfl
      intro D H3 ys as hD s3 e3 hpr la hG
      have ea : as = bkF fs := by
        rw [as_map la hG, lr, ← List.length_reverse, map_ix bkB [] fs.reverse]
        rfl
      rw [ea] at hpr

      have s83 : Same H8 H3 := s9.trans s3
      have hdu : Bars n H3 D (bkF fs) := ⟨ys, e3, hpr⟩
      have hf3 := hf8.same s83
      have hc3 := hch.same s83
      have q3 := s83 _ _ q8
      clear s9 s3 s83 h9 e3 hpr hpr0 hp' hxs
      walk_at "rd"
      refine rd_turned hsn hc3 (by omega) fun pt H10 zs hpt s10 h10 hz10 => ?_
      have hd10 := hdu.same s10
      have lbk : (bkF fs).length ≤ 16 := by rw [bars_len]; omega
      walk_at "rd"
      refine rd_same (den_bars (k := 0) (barsF h10 hz10) (by omega)) (den_bars (k := 0) hd10 (by omega)) fun H11 s11 => ?_
      walk_at "rd"
      refine i_neD (n := 4) (by decide) (den_bars (k := 0) (hc3.same (s10.trans s11)) (by omega)) (den_bars (k := 0) (hf3.same (s10.trans s11)) (by omega)) (bars_oks fs) ?_
      walk_at "rd"
      refine rd_lookfig hsn ((barsF h10 hz10).same s11) lbk fun H12 s12 => ?_
      walk_at "rd"
      have s312 : Same H3 H12 := s10.trans (s11.trans s12)
      have h12 : H12 pt = some (.lst zs) := s12 _ _ (s11 _ _ h10)
      have sp0 := spoil_0 h12 (Paired.mapP hz10 fun _ _ q => (barStabF n H3).mono (s11.trans s12) q)
      have lz : zs.length ≤ 16 := by rw [hz10.length]; exact lbk
      clear s10 s11 s12 h10 hd10
      refine ⟨_, rfl, ⟨_, SqL.of h12⟩, for_l (xs := zs) (fun i σ H4 => ∃ o, σ = [some (.ref a), some (.ref p), some (.int (0 + (i0 : Int))), some (.ref p3), some (.int n), some (.ref pf), some (.ref ph), some (.ref D), some (.ref pt), o] ∧ Same H3 H4 ∧ H4 pt = some (.lst zs) ∧ Spoil H3 H4 pt i zs) ⟨_, rfl, s312, h12, sp0⟩ (fun i σ H4 _ ⟨_, _, _, z, _⟩ => SqL.of z) ?_ ?_⟩
      · rintro j x σ H4 hx ⟨o, rfl, s4, h4, sp4⟩
        have hj : j < zs.length := (List.getElem?_eq_some_iff.mp hx).1
        obtain ⟨q, us, rfl, hq, lu, q0, nq⟩ := sp4 x (List.mem_of_getElem? hx)
        walk_at "rd"
        rename_i t5 H5 ht5 s5 h5
        refine i_app2 (s5 _ _ hq) (Nat.lt_of_lt_of_le (by omega : _ < 1000) k1000) fun H6 h6 h6o => ?_
        walk_at "rd"
        refine ⟨_, rfl, fun b o e => h6o b o (ne_of_none e q0) (s5 _ _ (s4 _ _ e)), h6o _ _ (Ne.symm nq) (s5 _ _ h4), fun y hy => ?_⟩
        obtain ⟨q', us', ey, hq', lu', q0', nq'⟩ := sp4 y hy
        by_cases c : q' = q
        · subst c
          exact ⟨q', _, ey, h6, by rw [h4us hq hq'] at lu'; rw [List.length_append]; show _ + 1 ≤ _; omega, q0', nq'⟩
        · exact ⟨q', us', ey, h6o _ _ c (s5 _ _ hq'), by omega, q0', nq'⟩
      · rintro σ H4 ⟨o, rfl, s4, h4, sp4⟩
        walk_at "rd"
        refine i_neD (n := 4) (by decide) (den_bars (k := 0) (hc3.same s4) (by omega)) (den_bars (k := 0) (hf3.same s4) (by omega)) (bars_oks fs) ?_
        walk_at "rd"
        refine rd_turned hsn (hdu.same s4) lbk fun pu H5 vs hpu s5 h5 hz5 => ?_
        have hb5 := barsF h5 hz5
        rw [bkF_bkF] at hb5
        walk_at "rd"
        refine rd_same (den_bars (k := 0) hb5 (by omega)) (den_bars (k := 0) (hf3.same (s4.trans s5)) (by omega)) fun H6 s6 => ?_
        walk_at "rd"
        exact ⟨_, _, _, _, _, _, _, _, rfl, s6 _ _ (s5 _ _ (s4 _ _ q3))⟩
    · rintro σ H2 ⟨o1, o2, o3, o4, o5, o6, o7, o8, rfl, h2⟩
      walk_at "rd"
      exact k _
end


theorem all_mk {l : PySem.W.OpenLaw} {w : World} {K : PySem.W.Frag} {h : Heap} {mg : Str → Option Value} {fa : Addr} (X : K.In h) (G : h.Ns mainGlobals mg) (hfa : mg "law" = some (.ref fa))
    {oc1 kV1 dc1 pm1 cd1 ct1 : Value} {od1 an1 : Option Addr} {sl1 : Array (Option Value)} {f1 : Addr} {oc2 kV2 dc2 pm2 cd2 ct2 : Value} {od2 an2 : Option Addr} {sl2 : Array (Option Value)} {f2 : Addr} {oc3 kV3 dc3 pm3 cd3 ct3 : Value} {od3 an3 : Option Addr} {sl3 : Array (Option Value)} {f3 : Addr} {oc4 kV4 dc4 pm4 cd4 ct4 : Value} {od4 an4 : Option Addr} {sl4 : Array (Option Value)} {f4 : Addr} {oc5 kV5 dc5 pm5 cd5 ct5 : Value} {od5 an5 : Option Addr} {sl5 : Array (Option Value)} {f5 : Addr} {oc6 kV6 dc6 pm6 cd6 ct6 : Value} {od6 an6 : Option Addr} {sl6 : Array (Option Value)} {f6 : Addr} {oc7 kV7 dc7 pm7 cd7 ct7 : Value} {od7 an7 : Option Addr} {sl7 : Array (Option Value)} {f7 : Addr} {oc8 kV8 dc8 pm8 cd8 ct8 : Value} {od8 an8 : Option Addr} {sl8 : Array (Option Value)} {f8 : Addr} {oc9 kV9 dc9 pm9 cd9 ct9 : Value} {od9 an9 : Option Addr} {sl9 : Array (Option Value)} {f9 : Addr} {oc10 kV10 dc10 pm10 cd10 ct10 : Value} {od10 an10 : Option Addr} {sl10 : Array (Option Value)} {f10 : Addr} {oc11 kV11 dc11 pm11 cd11 ct11 : Value} {od11 an11 : Option Addr} {sl11 : Array (Option Value)} {f11 : Addr} {oc12 kV12 dc12 pm12 cd12 ct12 : Value} {od12 an12 : Option Addr} {sl12 : Array (Option Value)} {f12 : Addr} {oc13 kV13 dc13 pm13 cd13 ct13 : Value} {od13 an13 : Option Addr} {sl13 : Array (Option Value)} {f13 : Addr} {oc14 kV14 dc14 pm14 cd14 ct14 : Value} {od14 an14 : Option Addr} {sl14 : Array (Option Value)} {f14 : Addr} {oc15 kV15 dc15 pm15 cd15 ct15 : Value} {od15 an15 : Option Addr} {sl15 : Array (Option Value)} {f15 : Addr} {oc16 kV16 dc16 pm16 cd16 ct16 : Value} {od16 an16 : Option Addr} {sl16 : Array (Option Value)} {f16 : Addr} {oc17 kV17 dc17 pm17 cd17 ct17 : Value} {od17 an17 : Option Addr} {sl17 : Array (Option Value)} {f17 : Addr} {oc18 kV18 dc18 pm18 cd18 ct18 : Value} {od18 an18 : Option Addr} {sl18 : Array (Option Value)} {f18 : Addr} {oc19 kV19 dc19 pm19 cd19 ct19 : Value} {od19 an19 : Option Addr} {sl19 : Array (Option Value)} {f19 : Addr} {oc20 kV20 dc20 pm20 cd20 ct20 : Value} {od20 an20 : Option Addr} {sl20 : Array (Option Value)} {f20 : Addr} {oc21 kV21 dc21 pm21 cd21 ct21 : Value} {od21 an21 : Option Addr} {sl21 : Array (Option Value)} {f21 : Addr} {oc22 kV22 dc22 pm22 cd22 ct22 : Value} {od22 an22 : Option Addr} {sl22 : Array (Option Value)} {f22 : Addr} {oc23 kV23 dc23 pm23 cd23 ct23 : Value} {od23 an23 : Option Addr} {sl23 : Array (Option Value)} {f23 : Addr} {oc24 kV24 dc24 pm24 cd24 ct24 : Value} {od24 an24 : Option Addr} {sl24 : Array (Option Value)} {f24 : Addr} {t_FEWEST_SPOTS : Tok} {t_MOST_SPOTS : Tok} {t_MOST_MANY : Tok} {t_MOST_CALLS : Tok} {t_MOST_BARS : Tok}
    (a1 : PySem.W.nsIn K mainGlobals "_law_numbers" = some (some (.ref f1))) (l1 : K.lookup f1 = some ⟨oc1, od1, .func (PySem.W.fnOf "_law_numbers" "_law_numbers" (defArgs s__law_numbers) (defBody s__law_numbers) (defScope s__law_numbers) .none kV1 dc1 pm1 an1 cd1 ct1), sl1⟩) (c1 : PySem.W.codeIn K cd1 "_law_numbers" = true) (k1 : PySem.W.keepIn K (.ref f1) = true)
    (a2 : PySem.W.nsIn K mainGlobals "_law_same" = some (some (.ref f2))) (l2 : K.lookup f2 = some ⟨oc2, od2, .func (PySem.W.fnOf "_law_same" "_law_same" (defArgs s__law_same) (defBody s__law_same) (defScope s__law_same) .none kV2 dc2 pm2 an2 cd2 ct2), sl2⟩) (c2 : PySem.W.codeIn K cd2 "_law_same" = true) (k2 : PySem.W.keepIn K (.ref f2) = true)
    (a3 : PySem.W.nsIn K mainGlobals "look_spots" = some (some (.ref f3))) (l3 : K.lookup f3 = some ⟨oc3, od3, .func (PySem.W.fnOf "look_spots" "look_spots" (defArgs s_look_spots) (defBody s_look_spots) (defScope s_look_spots) .none kV3 dc3 pm3 an3 cd3 ct3), sl3⟩) (c3 : PySem.W.codeIn K cd3 "look_spots" = true) (k3 : PySem.W.keepIn K (.ref f3) = true)
    (a4 : PySem.W.nsIn K mainGlobals "is_span" = some (some (.ref f4))) (l4 : K.lookup f4 = some ⟨oc4, od4, .func (PySem.W.fnOf "is_span" "is_span" (defArgs s_is_span) (defBody s_is_span) (defScope s_is_span) .none kV4 dc4 pm4 an4 cd4 ct4), sl4⟩) (c4 : PySem.W.codeIn K cd4 "is_span" = true) (k4 : PySem.W.keepIn K (.ref f4) = true)
    (a5 : PySem.W.nsIn K mainGlobals "numbers_fit" = some (some (.ref f5))) (l5 : K.lookup f5 = some ⟨oc5, od5, .func (PySem.W.fnOf "numbers_fit" "numbers_fit" (defArgs s_numbers_fit) (defBody s_numbers_fit) (defScope s_numbers_fit) .none kV5 dc5 pm5 an5 cd5 ct5), sl5⟩) (c5 : PySem.W.codeIn K cd5 "numbers_fit" = true) (k5 : PySem.W.keepIn K (.ref f5) = true)
    (a6 : PySem.W.nsIn K mainGlobals "look_call" = some (some (.ref f6))) (l6 : K.lookup f6 = some ⟨oc6, od6, .func (PySem.W.fnOf "look_call" "look_call" (defArgs s_look_call) (defBody s_look_call) (defScope s_look_call) .none kV6 dc6 pm6 an6 cd6 ct6), sl6⟩) (c6 : PySem.W.codeIn K cd6 "look_call" = true) (k6 : PySem.W.keepIn K (.ref f6) = true)
    (a7 : PySem.W.nsIn K mainGlobals "exchange_places" = some (some (.ref f7))) (l7 : K.lookup f7 = some ⟨oc7, od7, .func (PySem.W.fnOf "exchange_places" "exchange_places" (defArgs s_exchange_places) (defBody s_exchange_places) (defScope s_exchange_places) .none kV7 dc7 pm7 an7 cd7 ct7), sl7⟩) (c7 : PySem.W.codeIn K cd7 "exchange_places" = true) (k7 : PySem.W.keepIn K (.ref f7) = true)
    (a8 : PySem.W.nsIn K mainGlobals "_law_ring" = some (some (.ref f8))) (l8 : K.lookup f8 = some ⟨oc8, od8, .func (PySem.W.fnOf "_law_ring" "_law_ring" (defArgs s__law_ring) (defBody s__law_ring) (defScope s__law_ring) .none kV8 dc8 pm8 an8 cd8 ct8), sl8⟩) (c8 : PySem.W.codeIn K cd8 "_law_ring" = true) (k8 : PySem.W.keepIn K (.ref f8) = true)
    (a9 : PySem.W.nsIn K mainGlobals "_law_ring_swaps" = some (some (.ref f9))) (l9 : K.lookup f9 = some ⟨oc9, od9, .func (PySem.W.fnOf "_law_ring_swaps" "_law_ring_swaps" (defArgs s__law_ring_swaps) (defBody s__law_ring_swaps) (defScope s__law_ring_swaps) .none kV9 dc9 pm9 an9 cd9 ct9), sl9⟩) (c9 : PySem.W.codeIn K cd9 "_law_ring_swaps" = true) (k9 : PySem.W.keepIn K (.ref f9) = true)
    (a10 : PySem.W.nsIn K mainGlobals "_law_swaps" = some (some (.ref f10))) (l10 : K.lookup f10 = some ⟨oc10, od10, .func (PySem.W.fnOf "_law_swaps" "_law_swaps" (defArgs s__law_swaps) (defBody s__law_swaps) (defScope s__law_swaps) .none kV10 dc10 pm10 an10 cd10 ct10), sl10⟩) (c10 : PySem.W.codeIn K cd10 "_law_swaps" = true) (k10 : PySem.W.keepIn K (.ref f10) = true)
    (a11 : PySem.W.nsIn K mainGlobals "taken" = some (some (.ref f11))) (l11 : K.lookup f11 = some ⟨oc11, od11, .func (PySem.W.fnOf "taken" "taken" (defArgs s_taken) (defBody s_taken) (defScope s_taken) .none kV11 dc11 pm11 an11 cd11 ct11), sl11⟩) (c11 : PySem.W.codeIn K cd11 "taken" = true) (k11 : PySem.W.keepIn K (.ref f11) = true)
    (a12 : PySem.W.nsIn K mainGlobals "look_bar" = some (some (.ref f12))) (l12 : K.lookup f12 = some ⟨oc12, od12, .func (PySem.W.fnOf "look_bar" "look_bar" (defArgs s_look_bar) (defBody s_look_bar) (defScope s_look_bar) .none kV12 dc12 pm12 an12 cd12 ct12), sl12⟩) (c12 : PySem.W.codeIn K cd12 "look_bar" = true) (k12 : PySem.W.keepIn K (.ref f12) = true)
    (a13 : PySem.W.nsIn K mainGlobals "_law_takes" = some (some (.ref f13))) (l13 : K.lookup f13 = some ⟨oc13, od13, .func (PySem.W.fnOf "_law_takes" "_law_takes" (defArgs s__law_takes) (defBody s__law_takes) (defScope s__law_takes) .none kV13 dc13 pm13 an13 cd13 ct13), sl13⟩) (c13 : PySem.W.codeIn K cd13 "_law_takes" = true) (k13 : PySem.W.keepIn K (.ref f13) = true)
    (a14 : PySem.W.nsIn K mainGlobals "_law_spots" = some (some (.ref f14))) (l14 : K.lookup f14 = some ⟨oc14, od14, .func (PySem.W.fnOf "_law_spots" "_law_spots" (defArgs s__law_spots) (defBody s__law_spots) (defScope s__law_spots) .none kV14 dc14 pm14 an14 cd14 ct14), sl14⟩) (c14 : PySem.W.codeIn K cd14 "_law_spots" = true) (k14 : PySem.W.keepIn K (.ref f14) = true)
    (a15 : PySem.W.nsIn K mainGlobals "_law_call" = some (some (.ref f15))) (l15 : K.lookup f15 = some ⟨oc15, od15, .func (PySem.W.fnOf "_law_call" "_law_call" (defArgs s__law_call) (defBody s__law_call) (defScope s__law_call) .none kV15 dc15 pm15 an15 cd15 ct15), sl15⟩) (c15 : PySem.W.codeIn K cd15 "_law_call" = true) (k15 : PySem.W.keepIn K (.ref f15) = true)
    (a16 : PySem.W.nsIn K mainGlobals "_law_loose_bar" = some (some (.ref f16))) (l16 : K.lookup f16 = some ⟨oc16, od16, .func (PySem.W.fnOf "_law_loose_bar" "_law_loose_bar" (defArgs s__law_loose_bar) (defBody s__law_loose_bar) (defScope s__law_loose_bar) .none kV16 dc16 pm16 an16 cd16 ct16), sl16⟩) (c16 : PySem.W.codeIn K cd16 "_law_loose_bar" = true) (k16 : PySem.W.keepIn K (.ref f16) = true)
    (a17 : PySem.W.nsIn K mainGlobals "_law_bar" = some (some (.ref f17))) (l17 : K.lookup f17 = some ⟨oc17, od17, .func (PySem.W.fnOf "_law_bar" "_law_bar" (defArgs s__law_bar) (defBody s__law_bar) (defScope s__law_bar) .none kV17 dc17 pm17 an17 cd17 ct17), sl17⟩) (c17 : PySem.W.codeIn K cd17 "_law_bar" = true) (k17 : PySem.W.keepIn K (.ref f17) = true)
    (a18 : PySem.W.nsIn K mainGlobals "look_figure" = some (some (.ref f18))) (l18 : K.lookup f18 = some ⟨oc18, od18, .func (PySem.W.fnOf "look_figure" "look_figure" (defArgs s_look_figure) (defBody s_look_figure) (defScope s_look_figure) .none kV18 dc18 pm18 an18 cd18 ct18), sl18⟩) (c18 : PySem.W.codeIn K cd18 "look_figure" = true) (k18 : PySem.W.keepIn K (.ref f18) = true)
    (a19 : PySem.W.nsIn K mainGlobals "_law_figure" = some (some (.ref f19))) (l19 : K.lookup f19 = some ⟨oc19, od19, .func (PySem.W.fnOf "_law_figure" "_law_figure" (defArgs s__law_figure) (defBody s__law_figure) (defScope s__law_figure) .none kV19 dc19 pm19 an19 cd19 ct19), sl19⟩) (c19 : PySem.W.codeIn K cd19 "_law_figure" = true) (k19 : PySem.W.keepIn K (.ref f19) = true)
    (a20 : PySem.W.nsIn K mainGlobals "_law_copied" = some (some (.ref f20))) (l20 : K.lookup f20 = some ⟨oc20, od20, .func (PySem.W.fnOf "_law_copied" "_law_copied" (defArgs s__law_copied) (defBody s__law_copied) (defScope s__law_copied) .none kV20 dc20 pm20 an20 cd20 ct20), sl20⟩) (c20 : PySem.W.codeIn K cd20 "_law_copied" = true) (k20 : PySem.W.keepIn K (.ref f20) = true)
    (a21 : PySem.W.nsIn K mainGlobals "turned_call" = some (some (.ref f21))) (l21 : K.lookup f21 = some ⟨oc21, od21, .func (PySem.W.fnOf "turned_call" "turned_call" (defArgs s_turned_call) (defBody s_turned_call) (defScope s_turned_call) .none kV21 dc21 pm21 an21 cd21 ct21), sl21⟩) (c21 : PySem.W.codeIn K cd21 "turned_call" = true) (k21 : PySem.W.keepIn K (.ref f21) = true)
    (a22 : PySem.W.nsIn K mainGlobals "_law_back_call" = some (some (.ref f22))) (l22 : K.lookup f22 = some ⟨oc22, od22, .func (PySem.W.fnOf "_law_back_call" "_law_back_call" (defArgs s__law_back_call) (defBody s__law_back_call) (defScope s__law_back_call) .none kV22 dc22 pm22 an22 cd22 ct22), sl22⟩) (c22 : PySem.W.codeIn K cd22 "_law_back_call" = true) (k22 : PySem.W.keepIn K (.ref f22) = true)
    (a23 : PySem.W.nsIn K mainGlobals "turned" = some (some (.ref f23))) (l23 : K.lookup f23 = some ⟨oc23, od23, .func (PySem.W.fnOf "turned" "turned" (defArgs s_turned) (defBody s_turned) (defScope s_turned) .none kV23 dc23 pm23 an23 cd23 ct23), sl23⟩) (c23 : PySem.W.codeIn K cd23 "turned" = true) (k23 : PySem.W.keepIn K (.ref f23) = true)
    (a24 : PySem.W.nsIn K mainGlobals "law" = some (some (.ref f24))) (l24 : K.lookup f24 = some ⟨oc24, od24, .func (PySem.W.fnOf "law" "law" (defArgs s_law) (defBody s_law) (defScope s_law) .none kV24 dc24 pm24 an24 cd24 ct24), sl24⟩) (c24 : PySem.W.codeIn K cd24 "law" = true) (k24 : PySem.W.keepIn K (.ref f24) = true)
    (z_isinstance : PySem.W.nsIn K mainGlobals "isinstance" = some none)
    (z_list : PySem.W.nsIn K mainGlobals "list" = some none)
    (z_tuple : PySem.W.nsIn K mainGlobals "tuple" = some none)
    (z_len : PySem.W.nsIn K mainGlobals "len" = some none)
    (z_all : PySem.W.nsIn K mainGlobals "all" = some none)
    (z_range : PySem.W.nsIn K mainGlobals "range" = some none)
    (z_bool : PySem.W.nsIn K mainGlobals "bool" = some none)
    (z_str : PySem.W.nsIn K mainGlobals "str" = some none)
    (z_int : PySem.W.nsIn K mainGlobals "int" = some none)
    (z_abs : PySem.W.nsIn K mainGlobals "abs" = some none)
    (z_sorted : PySem.W.nsIn K mainGlobals "sorted" = some none)
    (z_enumerate : PySem.W.nsIn K mainGlobals "enumerate" = some none)
    (z_sum : PySem.W.nsIn K mainGlobals "sum" = some none)
    (z_any : PySem.W.nsIn K mainGlobals "any" = some none)
    (z_zip : PySem.W.nsIn K mainGlobals "zip" = some none)
    (z_reversed : PySem.W.nsIn K mainGlobals "reversed" = some none)
    (v_FEWEST_SPOTS : PySem.W.nsIn K mainGlobals "FEWEST_SPOTS" = some (some (.int 2 t_FEWEST_SPOTS)))
    (v_MOST_SPOTS : PySem.W.nsIn K mainGlobals "MOST_SPOTS" = some (some (.int 6 t_MOST_SPOTS)))
    (v_MOST_MANY : PySem.W.nsIn K mainGlobals "MOST_MANY" = some (some (.int 64 t_MOST_MANY)))
    (v_MOST_CALLS : PySem.W.nsIn K mainGlobals "MOST_CALLS" = some (some (.int 4 t_MOST_CALLS)))
    (v_MOST_BARS : PySem.W.nsIn K mainGlobals "MOST_BARS" = some (some (.int 16 t_MOST_BARS))) {aC : Addr} {epC : Nat} {u0 w0 : Tok} {u1 w1 : Tok} {u2 w2 : Tok} {u3 w3 : Tok} {u4 w4 : Tok} {u5 w5 : Tok} {u6 w6 : Tok} {u7 w7 : Tok} (vC : PySem.W.nsIn K mainGlobals "COUNTS" = some (some (.ref aC))) (sC : (aC == sysModules) = false) (lC : K.lookup aC = some { cls := .type "dict", data := .dict #[⟨PyData.keyHash w.params "ring", .str "ring" u0, .int 3 w0⟩, ⟨PyData.keyHash w.params "chain", .str "chain" u1, .int 3 w1⟩, ⟨PyData.keyHash w.params "cross", .str "cross" u2, .int 1 w2⟩, ⟨PyData.keyHash w.params "pass", .str "pass" u3, .int 2 w3⟩, ⟨PyData.keyHash w.params "corner", .str "corner" u4, .int 2 w4⟩, ⟨PyData.keyHash w.params "cast", .str "cast" u5, .int 2 w5⟩, ⟨PyData.keyHash w.params "lead", .str "lead" u6, .int 2 w6⟩, ⟨PyData.keyHash w.params "stand", .str "stand" u7, .int 1 w7⟩] epC }) :
    ∃ fd : FuncData, (∀ (s : Shared) (v : Value), BindsTo s fd ⟨[v], []⟩ [("_law_script", v)]) ∧ ∀ base : Heap, K.In base → base.Ns mainGlobals mg → FnOk l.prog w K mg base CX0 8 fa fd ["_law_script"] (spLaw K) := by
  have e := hfa.symm.trans (PySem.W.mg_of X G a24)
  cases e
  have F1 := fun_mk (st := s__law_numbers) l1 c1 k1
  have b1 := F1.binds (ps := ["_law_script", "_law_many"]) fun _ _ _ _ _ _ us hl => match us, hl with | [_, _], _ => rfl
  have F2 := fun_mk (st := s__law_same) l2 c2 k2
  have b2 := F2.binds (ps := ["_law_found", "_law_due"]) fun _ _ _ _ _ _ us hl => match us, hl with | [_, _], _ => rfl
  have F3 := fun_mk (st := s_look_spots) l3 c3 k3
  have b3 := F3.binds (ps := ["spots"]) fun _ _ _ _ _ _ us hl => match us, hl with | [_], _ => rfl
  have F4 := fun_mk (st := s_is_span) l4 c4 k4
  have b4 := F4.binds (ps := ["spots", "first", "last"]) fun _ _ _ _ _ _ us hl => match us, hl with | [_, _, _], _ => rfl
  have F5 := fun_mk (st := s_numbers_fit) l5 c5 k5
  have b5 := F5.binds (ps := ["spots", "call"]) fun _ _ _ _ _ _ us hl => match us, hl with | [_, _], _ => rfl
  have F6 := fun_mk (st := s_look_call) l6 c6 k6
  have b6 := F6.binds (ps := ["spots", "call"]) fun _ _ _ _ _ _ us hl => match us, hl with | [_, _], _ => rfl
  have F7 := fun_mk (st := s_exchange_places) l7 c7 k7
  have b7 := F7.binds (ps := ["call"]) fun _ _ _ _ _ _ us hl => match us, hl with | [_], _ => rfl
  have F8 := fun_mk (st := s__law_ring) l8 c8 k8
  have b8 := F8.binds (ps := ["_law_first", "_law_last"]) fun _ _ _ _ _ _ us hl => match us, hl with | [_, _], _ => rfl
  have F9 := fun_mk (st := s__law_ring_swaps) l9 c9 k9
  have b9 := F9.binds (ps := ["_law_call_here"]) fun _ _ _ _ _ _ us hl => match us, hl with | [_], _ => rfl
  have F10 := fun_mk (st := s__law_swaps) l10 c10 k10
  have b10 := F10.binds (ps := ["_law_call_here"]) fun _ _ _ _ _ _ us hl => match us, hl with | [_], _ => rfl
  have F11 := fun_mk (st := s_taken) l11 c11 k11
  have b11 := F11.binds (ps := ["spots", "call"]) fun _ _ _ _ _ _ us hl => match us, hl with | [_, _], _ => rfl
  have F12 := fun_mk (st := s_look_bar) l12 c12 k12
  have b12 := F12.binds (ps := ["spots", "bar"]) fun _ _ _ _ _ _ us hl => match us, hl with | [_, _], _ => rfl
  have F13 := fun_mk (st := s__law_takes) l13 c13 k13
  have b13 := F13.binds (ps := ["_law_call_here"]) fun _ _ _ _ _ _ us hl => match us, hl with | [_], _ => rfl
  have F14 := fun_mk (st := s__law_spots) l14 c14 k14
  have b14 := F14.binds (ps := ["_law_d"]) fun _ _ _ _ _ _ us hl => match us, hl with | [_], _ => rfl
  have F15 := fun_mk (st := s__law_call) l15 c15 k15
  have b15 := F15.binds (ps := ["_law_d", "_law_spots_here"]) fun _ _ _ _ _ _ us hl => match us, hl with | [_, _], _ => rfl
  have F16 := fun_mk (st := s__law_loose_bar) l16 c16 k16
  have b16 := F16.binds (ps := ["_law_d", "_law_spots_here"]) fun _ _ _ _ _ _ us hl => match us, hl with | [_, _], _ => rfl
  have F17 := fun_mk (st := s__law_bar) l17 c17 k17
  have b17 := F17.binds (ps := ["_law_d", "_law_spots_here"]) fun _ _ _ _ _ _ us hl => match us, hl with | [_, _], _ => rfl
  have F18 := fun_mk (st := s_look_figure) l18 c18 k18
  have b18 := F18.binds (ps := ["spots", "figure"]) fun _ _ _ _ _ _ us hl => match us, hl with | [_, _], _ => rfl
  have F19 := fun_mk (st := s__law_figure) l19 c19 k19
  have b19 := F19.binds (ps := ["_law_d", "_law_spots_here", "_law_most"]) fun _ _ _ _ _ _ us hl => match us, hl with | [_, _, _], _ => rfl
  have F20 := fun_mk (st := s__law_copied) l20 c20 k20
  have b20 := F20.binds (ps := ["_law_figure_here"]) fun _ _ _ _ _ _ us hl => match us, hl with | [_], _ => rfl
  have F21 := fun_mk (st := s_turned_call) l21 c21 k21
  have b21 := F21.binds (ps := ["spots", "call"]) fun _ _ _ _ _ _ us hl => match us, hl with | [_, _], _ => rfl
  have F22 := fun_mk (st := s__law_back_call) l22 c22 k22
  have b22 := F22.binds (ps := ["_law_call_here"]) fun _ _ _ _ _ _ us hl => match us, hl with | [_], _ => rfl
  have F23 := fun_mk (st := s_turned) l23 c23 k23
  have b23 := F23.binds (ps := ["spots", "figure"]) fun _ _ _ _ _ _ us hl => match us, hl with | [_, _], _ => rfl
  have F24 := fun_mk (st := s_law) l24 c24 k24
  have b24 := F24.binds (ps := ["_law_script"]) fun _ _ _ _ _ _ us hl => match us, hl with | [_], _ => rfl
  have T : Txt l.prog w K mg := ⟨PySem.W.mg_none_of X G z_isinstance, PySem.W.mg_none_of X G z_list, PySem.W.mg_none_of X G z_tuple, PySem.W.mg_none_of X G z_len, PySem.W.mg_none_of X G z_all, PySem.W.mg_none_of X G z_range, PySem.W.mg_none_of X G z_bool, PySem.W.mg_none_of X G z_str, PySem.W.mg_none_of X G z_int, PySem.W.mg_none_of X G z_abs, PySem.W.mg_none_of X G z_sorted, PySem.W.mg_none_of X G z_enumerate, PySem.W.mg_none_of X G z_sum, PySem.W.mg_none_of X G z_any, PySem.W.mg_none_of X G z_zip, PySem.W.mg_none_of X G z_reversed, ⟨_, PySem.W.mg_of X G v_FEWEST_SPOTS⟩, ⟨_, PySem.W.mg_of X G v_MOST_SPOTS⟩, ⟨_, PySem.W.mg_of X G v_MOST_MANY⟩, ⟨_, PySem.W.mg_of X G v_MOST_CALLS⟩, ⟨_, PySem.W.mg_of X G v_MOST_BARS⟩, aC, PySem.W.mg_of X G vC, kdict_mk [("ring", u0, 3, w0), ("chain", u1, 3, w1), ("cross", u2, 1, w2), ("pass", u3, 2, w3), ("corner", u4, 2, w4), ("cast", u5, 2, w5), ("lead", u6, 2, w6), ("stand", u7, 1, w7)] sC lC (show ([Sum.inr "ring", Sum.inr "chain", Sum.inr "cross", Sum.inr "pass", Sum.inr "corner", Sum.inr "cast", Sum.inr "lead", Sum.inr "stand"] : List Key).Nodup by decide +kernel)⟩
  refine ⟨PySem.W.fnOf "law" "law" (defArgs s_law) (defBody s_law) (defScope s_law) .none kV24 dc24 pm24 an24 cd24 ct24, fun s v => .of_eq rfl, fun base _ _ => ?_⟩
  have F__law_numbers : FnAt l.prog w K mg base "_law_numbers" 1 (spNum K) := ⟨f1, _, _, ok__law_numbers F1 T , b1, PySem.W.mg_of X G a1, k1⟩
  have F__law_same : FnAt l.prog w K mg base "_law_same" 4 (spSame 4) := ⟨f2, _, _, ok_same F2 T b2 (PySem.W.mg_of X G a2) k2 4, b2, PySem.W.mg_of X G a2, k2⟩
  have F_look_spots : FnAt l.prog w K mg base "look_spots" 1 spLook := ⟨f3, _, _, ok_look_spots F3 T , b3, PySem.W.mg_of X G a3, k3⟩
  have F_is_span : FnAt l.prog w K mg base "is_span" 1 spSpan := ⟨f4, _, _, ok_is_span F4 T , b4, PySem.W.mg_of X G a4, k4⟩
  have F_numbers_fit : FnAt l.prog w K mg base "numbers_fit" 2 spFit := ⟨f5, _, _, ok_numbers_fit F5 T F_is_span, b5, PySem.W.mg_of X G a5, k5⟩
  have F_look_call : FnAt l.prog w K mg base "look_call" 3 spCall := ⟨f6, _, _, ok_look_call F6 T F_look_spots F_numbers_fit, b6, PySem.W.mg_of X G a6, k6⟩
  have F_exchange_places : FnAt l.prog w K mg base "exchange_places" 1 spExch := ⟨f7, _, _, ok_exchange_places F7 T , b7, PySem.W.mg_of X G a7, k7⟩
  have F__law_ring : FnAt l.prog w K mg base "_law_ring" 1 spLRing := ⟨f8, _, _, ok__law_ring F8 T , b8, PySem.W.mg_of X G a8, k8⟩
  have F__law_ring_swaps : FnAt l.prog w K mg base "_law_ring_swaps" 2 spRSw := ⟨f9, _, _, ok__law_ring_swaps F9 T F__law_ring, b9, PySem.W.mg_of X G a9, k9⟩
  have F__law_swaps : FnAt l.prog w K mg base "_law_swaps" 3 spLSw := ⟨f10, _, _, ok__law_swaps F10 T F__law_ring_swaps, b10, PySem.W.mg_of X G a10, k10⟩
  have F_taken : FnAt l.prog w K mg base "taken" 4 spTaken := ⟨f11, _, _, ok_taken F11 T F_look_call F_exchange_places, b11, PySem.W.mg_of X G a11, k11⟩
  have F_look_bar : FnAt l.prog w K mg base "look_bar" 5 spLookBar := ⟨f12, _, _, ok_look_bar F12 T F_look_spots F_taken, b12, PySem.W.mg_of X G a12, k12⟩
  have F__law_takes : FnAt l.prog w K mg base "_law_takes" 4 spLTk := ⟨f13, _, _, ok__law_takes F13 T F__law_swaps, b13, PySem.W.mg_of X G a13, k13⟩
  have F__law_spots : FnAt l.prog w K mg base "_law_spots" 1 spSpots := ⟨f14, _, _, ok__law_spots F14 T , b14, PySem.W.mg_of X G a14, k14⟩
  have F__law_call : FnAt l.prog w K mg base "_law_call" 1 spMk := ⟨f15, _, _, ok__law_call F15 T , b15, PySem.W.mg_of X G a15, k15⟩
  have F__law_loose_bar : FnAt l.prog w K mg base "_law_loose_bar" 2 spLoose := ⟨f16, _, _, ok__law_loose_bar F16 T F__law_call, b16, PySem.W.mg_of X G a16, k16⟩
  have F__law_bar : FnAt l.prog w K mg base "_law_bar" 5 spLBar := ⟨f17, _, _, ok__law_bar F17 T F__law_loose_bar F__law_takes, b17, PySem.W.mg_of X G a17, k17⟩
  have F_look_figure : FnAt l.prog w K mg base "look_figure" 6 spLookFig := ⟨f18, _, _, ok_look_figure F18 T F_look_spots F_look_bar, b18, PySem.W.mg_of X G a18, k18⟩
  have F__law_figure : FnAt l.prog w K mg base "_law_figure" 6 spLFig := ⟨f19, _, _, ok__law_figure F19 T F__law_bar, b19, PySem.W.mg_of X G a19, k19⟩
  have F__law_copied : FnAt l.prog w K mg base "_law_copied" 1 spLCopy := ⟨f20, _, _, ok__law_copied F20 T , b20, PySem.W.mg_of X G a20, k20⟩
  have F_turned_call : FnAt l.prog w K mg base "turned_call" 4 spTurn := ⟨f21, _, _, ok_turned_call F21 T F_look_call, b21, PySem.W.mg_of X G a21, k21⟩
  have F__law_back_call : FnAt l.prog w K mg base "_law_back_call" 1 spLBack := ⟨f22, _, _, ok__law_back_call F22 T , b22, PySem.W.mg_of X G a22, k22⟩
  have F_turned : FnAt l.prog w K mg base "turned" 7 spTurnedF := ⟨f23, _, _, ok_turned F23 T F_look_figure F_turned_call, b23, PySem.W.mg_of X G a23, k23⟩
  exact ok_law F24 T F__law_numbers F__law_spots F__law_figure F__law_copied F__law_back_call F_turned F_look_figure F__law_same
theorem walk {l : PySem.W.OpenLaw} {q : Program} {loose : List Str} {XP : (Str → Option Value) → Heap → Prop} {YP : World → Heap → Prop} {d : DefRec} {K : Params → PySem.W.Frag} (hn : l.most = some 63) (hdf : d.params.defaults = [])
    (hY : ∀ (w : World) (h : Heap), YP w h → (K w.params).In h)
    (F : ∀ (w : World) (mg : Str → Option Value) (fa : Addr) (h : Heap), (K w.params).In h → h.Ns mainGlobals mg → mg d.name = some (.ref fa) →
      ∃ fd : FuncData, (∀ (s : Shared) (u : Value), BindsTo s fd ⟨[u], []⟩ [("_law_script", u)]) ∧ ∀ base : Heap, (K w.params).In base → base.Ns mainGlobals mg → FnOk l.prog w (K w.params) mg base CX0 8 fa fd ["_law_script"] (spLaw (K w.params))) :
    PySem.W.WalkO q loose XP YP l.row.toRowW d [] (fun f vs => PySem.call f vs) :=
  L2.walk_of (n := 63) (k := 8) (x := "_law_script") (CX := fun _ => CX0) (sp := fun w => spLaw (K w.params)) hn (by decide) hdf ⟨rfl, by decide, by decide⟩ hY F (fun _ _ a ns hl _ hS => ⟨a, ns, rfl, hS, hl, fun _ => rfl⟩) fun _ _ _ _ _ z => z

end T11
open PySem PySem.W PyProof.Rows
set_option maxRecDepth 100000 in
set_option maxHeartbeats 0 in
theorem PySem.Challenge.cw_longways_k11_figures_turned_about_holds : PySem.Challenge.rw_longways_k11_figures_turned_about.Holds := by
  w_on; o_law; k_head; (case hw => w_witness2)
  k_fill
  refine T11.walk (l := PySem.Challenge.rw_longways_k11_figures_turned_about) rfl rfl (fun w h Y => PySem.W.kIn_of Y) ?F
  case F =>
    intro w mg fa h KX G hmg
    refine' T11.all_mk KX G hmg ?a1 ?l1 ?c1 ?k1 ?a2 ?l2 ?c2 ?k2 ?a3 ?l3 ?c3 ?k3 ?a4 ?l4 ?c4 ?k4 ?a5 ?l5 ?c5 ?k5 ?a6 ?l6 ?c6 ?k6 ?a7 ?l7 ?c7 ?k7 ?a8 ?l8 ?c8 ?k8 ?a9 ?l9 ?c9 ?k9 ?a10 ?l10 ?c10 ?k10 ?a11 ?l11 ?c11 ?k11 ?a12 ?l12 ?c12 ?k12 ?a13 ?l13 ?c13 ?k13 ?a14 ?l14 ?c14 ?k14 ?a15 ?l15 ?c15 ?k15 ?a16 ?l16 ?c16 ?k16 ?a17 ?l17 ?c17 ?k17 ?a18 ?l18 ?c18 ?k18 ?a19 ?l19 ?c19 ?k19 ?a20 ?l20 ?c20 ?k20 ?a21 ?l21 ?c21 ?k21 ?a22 ?l22 ?c22 ?k22 ?a23 ?l23 ?c23 ?k23 ?a24 ?l24 ?c24 ?k24 ?z_isinstance ?z_list ?z_tuple ?z_len ?z_all ?z_range ?z_bool ?z_str ?z_int ?z_abs ?z_sorted ?z_enumerate ?z_sum ?z_any ?z_zip ?z_reversed ?v_FEWEST_SPOTS ?v_MOST_SPOTS ?v_MOST_MANY ?v_MOST_CALLS ?v_MOST_BARS ?vC ?sC ?lC
    (case a1 => k_is)
    (case l1 => k_is)
    (case c1 => k_is)
    (case k1 => k_is)
    (case a2 => k_is)
    (case l2 => k_is)
    (case c2 => k_is)
    (case k2 => k_is)
    (case a3 => k_is)
    (case l3 => k_is)
    (case c3 => k_is)
    (case k3 => k_is)
    (case a4 => k_is)
    (case l4 => k_is)
    (case c4 => k_is)
    (case k4 => k_is)
    (case a5 => k_is)
    (case l5 => k_is)
    (case c5 => k_is)
    (case k5 => k_is)
    (case a6 => k_is)
    (case l6 => k_is)
    (case c6 => k_is)
    (case k6 => k_is)
    (case a7 => k_is)
    (case l7 => k_is)
    (case c7 => k_is)
    (case k7 => k_is)
    (case a8 => k_is)
    (case l8 => k_is)
    (case c8 => k_is)
    (case k8 => k_is)
    (case a9 => k_is)
    (case l9 => k_is)
    (case c9 => k_is)
    (case k9 => k_is)
    (case a10 => k_is)
    (case l10 => k_is)
    (case c10 => k_is)
    (case k10 => k_is)
    (case a11 => k_is)
    (case l11 => k_is)
    (case c11 => k_is)
    (case k11 => k_is)
    (case a12 => k_is)
    (case l12 => k_is)
    (case c12 => k_is)
    (case k12 => k_is)
    (case a13 => k_is)
    (case l13 => k_is)
    (case c13 => k_is)
    (case k13 => k_is)
    (case a14 => k_is)
    (case l14 => k_is)
    (case c14 => k_is)
    (case k14 => k_is)
    (case a15 => k_is)
    (case l15 => k_is)
    (case c15 => k_is)
    (case k15 => k_is)
    (case a16 => k_is)
    (case l16 => k_is)
    (case c16 => k_is)
    (case k16 => k_is)
    (case a17 => k_is)
    (case l17 => k_is)
    (case c17 => k_is)
    (case k17 => k_is)
    (case a18 => k_is)
    (case l18 => k_is)
    (case c18 => k_is)
    (case k18 => k_is)
    (case a19 => k_is)
    (case l19 => k_is)
    (case c19 => k_is)
    (case k19 => k_is)
    (case a20 => k_is)
    (case l20 => k_is)
    (case c20 => k_is)
    (case k20 => k_is)
    (case a21 => k_is)
    (case l21 => k_is)
    (case c21 => k_is)
    (case k21 => k_is)
    (case a22 => k_is)
    (case l22 => k_is)
    (case c22 => k_is)
    (case k22 => k_is)
    (case a23 => k_is)
    (case l23 => k_is)
    (case c23 => k_is)
    (case k23 => k_is)
    (case a24 => k_is)
    (case l24 => k_is)
    (case c24 => k_is)
    (case k24 => k_is)
    (case z_isinstance => k_is)
    (case z_list => k_is)
    (case z_tuple => k_is)
    (case z_len => k_is)
    (case z_all => k_is)
    (case z_range => k_is)
    (case z_bool => k_is)
    (case z_str => k_is)
    (case z_int => k_is)
    (case z_abs => k_is)
    (case z_sorted => k_is)
    (case z_enumerate => k_is)
    (case z_sum => k_is)
    (case z_any => k_is)
    (case z_zip => k_is)
    (case z_reversed => k_is)
    (case v_FEWEST_SPOTS => k_is)
    (case v_MOST_SPOTS => k_is)
    (case v_MOST_MANY => k_is)
    (case v_MOST_CALLS => k_is)
    (case v_MOST_BARS => k_is)
    (case vC => k_is)
    (case sC => first | k_is | rfl)
    (case lC => k_is)


