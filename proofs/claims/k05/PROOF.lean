import PyProof.Rows.All
import Wide.All
import OpenK.AllK
import Wide.FinOn
import Lean
import PyProof.EqAt
import PyProof.EqKinds
import PyProof.TupleCall
import PyProof.NeKinds
import KE.IntBitsLaws
import PyProof.StrWalks
import PyProof.FString5
import PyProof.ConsumeWalk
import PyProof.DictCompW
import PyProof.ZipIter
import PyProof.AttrMissHeap
import PyProof.ListNew
import PyProof.DictUpdate
import PyProof.EnumMake
import PyProof.Rows.SetFrom
import KE.KRevSl
import PyProof.FitsBits
import PyProof.Rows.SortWalk
import PyProof.ListRange
import PyProof.Rows.SortStr
import PyProof.StrBlockL
import PyProof.JoinWalk
import PyProof.DictWalks
import PyProof.Rows.StrMeet
import KE.KSortTup
import PySem.Challenge.RW_newsways_k05_what_is_wanted
-- CHANGE: your row's module here, as the last of these rows
set_option Elab.async false
set_option linter.all false
set_option maxRecDepth 100000
/-! merged hand layer -/
namespace L2
open PySem PySem.Spec PyProof.Rows

/-- a key: an int or a str -/
abbrev Key := Sum Int Str
def keyIs : Key → Value → Bool
  | .inl k, v => Value.isInt k v
  | .inr x, v => Value.isStrOf x v
def keyH (w : World) : Key → Int
  | .inl k => hashInt k
  | .inr x => hashStr w x
theorem keyIs_shape : ∀ {k : Key} {v : Value}, keyIs k v = true → (∃ i t, k = Sum.inl i ∧ v = Value.int i t) ∨ (∃ x t, k = Sum.inr x ∧ v = Value.str x t)
  | .inl i, v, h => by
    obtain ⟨t, e⟩ := Value.isInt_shape (k := i) (v := v) h
    exact .inl ⟨i, t, rfl, e⟩
  | .inr x, v, h => by
    obtain ⟨t, e⟩ := Value.isStrOf_shape (x := x) (v := v) h
    exact .inr ⟨x, t, rfl, e⟩
theorem keyIs_int (i : Int) (t : Tok) : keyIs (.inl i) (.int i t) = true := by simp [keyIs, Value.isInt]
theorem keyIs_str (x : Str) (t : Tok) : keyIs (.inr x) (.str x t) = true := by simp [keyIs, Value.isStrOf]
theorem key_ll (a b : Int) : decide ((Sum.inl a : Key) = Sum.inl b) = (a == b) := by
  by_cases e : a = b
  · subst e; simp
  · have h : ¬ (Sum.inl a : Key) = Sum.inl b := fun q => e (Sum.inl.inj q)
    rw [decide_eq_false h]
    exact (beq_eq_false_iff_ne.mpr e).symm
theorem key_rr (a b : Str) : decide ((Sum.inr a : Key) = Sum.inr b) = decide (a = b) := by
  by_cases e : a = b
  · subst e; simp
  · have h : ¬ (Sum.inr a : Key) = Sum.inr b := fun q => e (Sum.inr.inj q)
    rw [decide_eq_false h, decide_eq_false e]
theorem key_lr (a : Int) (b : Str) : decide ((Sum.inl a : Key) = Sum.inr b) = false := decide_eq_false (fun q => nomatch q)
theorem key_rl (a : Str) (b : Int) : decide ((Sum.inr a : Key) = Sum.inl b) = false := decide_eq_false (fun q => nomatch q)

def mixKind (prog : Program) (w : World) : PySem.KeyKind prog w Key where
  is := keyIs
  hash := keyH w
  inj := fun v a b ha hb => by
    rcases keyIs_shape ha with ⟨i, t, rfl, rfl⟩ | ⟨x, t, rfl, rfl⟩
    · rcases keyIs_shape hb with ⟨j, u, rfl, e⟩ | ⟨y, u, rfl, e⟩
      · injection e with e1 _; rw [e1]
      · exact nomatch e
    · rcases keyIs_shape hb with ⟨j, u, rfl, e⟩ | ⟨y, u, rfl, e⟩
      · exact nomatch e
      · injection e with e1 _; rw [e1]
  byValue := fun k v h => by
    rcases keyIs_shape h with ⟨i, t, rfl, rfl⟩ | ⟨x, t, rfl, rfl⟩ <;> rfl
  pyHash := fun hv h => by
    rcases keyIs_shape hv with ⟨i, t, rfl, rfl⟩ | ⟨x, t, rfl, rfl⟩
    · exact wpAny_pyHash_int h
    · exact wpAny_pyHash_str h
  eqBool := fun hu hv h => by
    rcases keyIs_shape hu with ⟨i, t, rfl, rfl⟩ | ⟨x, t, rfl, rfl⟩
    · rcases keyIs_shape hv with ⟨j, u, rfl, rfl⟩ | ⟨y, u, rfl, rfl⟩
      · rw [key_ll] at h; exact wpAny_eqBool_int h
      · rw [key_lr] at h; exact SeqAt.EqAt.int_str i t y u _ _ _ _ h
    · rcases keyIs_shape hv with ⟨j, u, rfl, rfl⟩ | ⟨y, u, rfl, rfl⟩
      · rw [key_rl] at h; exact SeqAt.EqAt.str_int x t j u _ _ _ _ h
      · rw [key_rr] at h; exact wpAny_eqBool_str h
  «strs» := fun k x t v h => by
    rcases keyIs_shape h with ⟨i, u, rfl, e⟩ | ⟨y, u, rfl, e⟩
    · exact nomatch e
    · injection e with e1 _
      subst e1
      cases v <;> rfl

theorem mixKind_is (prog : Program) (w : World) (k : Key) (v : Value) : (mixKind prog w).is k v = keyIs k v := rfl
theorem mixKind_int (prog : Program) (w : World) (i : Int) (t : Tok) : (mixKind prog w).is (.inl i) (.int i t) = true := keyIs_int i t
theorem mixKind_str (prog : Program) (w : World) (x : Str) (t : Tok) : (mixKind prog w).is (.inr x) (.str x t) = true := keyIs_str x t
end L2

namespace L2
open PySem PySem.Spec PyProof.Rows

/-- a value, without the heap -/
inductive V where
  | non | bl (b : Bool) | int (i : Int) | str (x : Str) | byt (b : Array UInt8) | flt (b : UInt64) | ref (a : Addr) | ty (n : String)
  deriving DecidableEq

def RelV : V → Value → Prop
  | .non, u => u = Value.none
  | .bl b, u => u = Value.bool b
  | .int i, u => ∃ t, u = Value.int i t
  | .str x, u => ∃ t, u = Value.str x t
  | .byt b, u => ∃ t, u = Value.bytes b t
  | .flt b, u => ∃ t, u = Value.float b t
  | .ref a, u => u = Value.ref a
  | .ty n, u => u = Value.type n

abbrev Vals : List V → List Value → Prop := Paired RelV
theorem Vals.length {xs : List V} {us : List Value} (r : Vals xs us) : xs.length = us.length := Paired.length r
theorem Vals.get : ∀ {xs : List V} {us : List Value} {i : Nat} {x : V}, Vals xs us → xs[i]? = some x → ∃ u, us[i]? = some u ∧ RelV x u
  | _, _, _, _, .nil, e => by simp at e
  | _, _, 0, _, .cons r _, e => by simp at e; subst e; exact ⟨_, rfl, r⟩
  | _, _, i + 1, x, .cons _ t, e => by
    obtain ⟨u, h1, h2⟩ := Vals.get (i := i) (x := x) t (by simpa using e)
    exact ⟨u, by simpa using h1, h2⟩
theorem Vals.set {x : V} {u : Value} (r : RelV x u) : ∀ {xs : List V} {us : List Value} (i : Nat), Vals xs us → Vals (xs.set i x) (us.set i u)
  | _, _, _, .nil => .nil
  | _, _, 0, .cons _ t => .cons r t
  | _, _, i + 1, .cons q t => .cons q (Vals.set r i t)
theorem Vals.append : ∀ {xs ys : List V} {us ws : List Value}, Vals xs us → Vals ys ws → Vals (xs ++ ys) (us ++ ws)
  | _, _, _, _, .nil, s => s
  | _, _, _, _, .cons r t, s => .cons r (Vals.append t s)
theorem Vals.take : ∀ {xs : List V} {us : List Value} (n : Nat), Vals xs us → Vals (xs.take n) (us.take n)
  | _, _, 0, _ => .nil
  | _, _, _ + 1, .nil => .nil
  | _, _, n + 1, .cons r t => .cons r (Vals.take n t)
theorem Vals.drop : ∀ {xs : List V} {us : List Value} (n : Nat), Vals xs us → Vals (xs.drop n) (us.drop n)
  | _, _, 0, r => r
  | _, _, _ + 1, .nil => .nil
  | _, _, n + 1, .cons _ t => Vals.drop n t
theorem Vals.none_of : ∀ {xs : List V} {us : List Value} {i : Nat}, Vals xs us → xs[i]? = none → us[i]? = none := fun {xs us i} r e => by
  have h1 := r.length
  have h2 : xs.length ≤ i := List.getElem?_eq_none_iff.mp e
  exact List.getElem?_eq_none_iff.mpr (by omega)

def RelO : Option V → Option Value → Prop
  | some v, some u => RelV v u
  | none, none => True
  | _, _ => False
def KV {κ : Type} : List (κ × V) → List (κ × Value) → Prop := Paired fun (p : κ × V) (q : κ × Value) => p.1 = q.1 ∧ RelV p.2 q.2

/-- a key of a dict (00_mix): an int or a text -/
def kV : Key → V
  | .inl i => .int i
  | .inr x => .str x

/-- what stands at a tracked address -/
inductive HO where
  /-- a list -/
  | lst (xs : List V)
  /-- a tuple (never changes) -/
  | tup (xs : List V)
  /-- a dict whose keys are ints and texts; one whose keys are tuples of ints and texts (the empty one is both) -/
  | dK (kvs : List (Key × V)) | dT (kvs : List (List Key × V))
  /-- a set of ints: its members, its size -/
  | set (S : Int → Bool) (n : Nat)
  /-- an instance of the class at C, its dict at dx, its attributes -/
  | ins (C dx : Addr) (fs : List (Str × V))
  /-- the dict of the instance at x -/
  | own (x : Addr)
  /-- the dict of an exception -/
  | xd (fs : List (Str × V))
  /-- a bound method, f of x -/
  | met (f x : Addr)
  /-- a range object lo, lo + 1, .. below hi -/
  | rng (lo hi : Int)
  /-- a thing that is known to the object (the script; a dict while a loop walks it): read, never written while it is so -/
  | frz (o : Obj) (u : HO)
  /-- a code object's table -/
  | tbl (ps : Array Value)
  /-- any other thing, by what is true of its one object (a def of one's own: SetO a S n := HO.ext fun h => ..) -/
  | ext (φ : Heap → Prop)

/-- a plain tuple: no dict -/
def IsTupP (h : Heap) (a : Addr) (items : Array Value) : Prop := ∃ o, h.get? a = some o ∧ o.cls = .type "tuple" ∧ o.dict = none ∧ ∃ n, o.data = .seq items n
theorem IsTupP.tup {h : Heap} {a : Addr} {items : Array Value} (x : IsTupP h a items) : IsTup h a items := let ⟨o, h1, h2, _, h3⟩ := x; ⟨o, h1, h2, h3⟩
theorem IsTupP.new (h : Heap) (items : Array Value) : IsTupP (h.push { cls := .type "tuple", data := .seq items }) h.objs.size items := ⟨_, Heap.get?_push_size _ rfl, rfl, rfl, _, rfl⟩
abbrev Hp := Addr → Option HO
def upd (H : Hp) (a : Addr) (o : HO) : Hp := fun b => if b = a then some o else H b
theorem upd_same {H : Hp} {a : Addr} {o : HO} : upd H a o a = some o := by unfold upd; rw [if_pos rfl]
theorem upd_ne {H : Hp} {a b : Addr} {o : HO} (h : b ≠ a) : upd H a o b = H b := by unfold upd; rw [if_neg h]
/-- two objects of different content stand apart -/
theorem ne_of {H : Hp} {a b : Addr} {o u : HO} (h : H a = some o) (h' : H b = some u) (d : o ≠ u) : a ≠ b := by
  intro e; subst e; rw [h] at h'; exact d (Option.some.inj h')
theorem ne_of_none {H : Hp} {a b : Addr} {o : HO} (h : H a = some o) (h' : H b = none) : a ≠ b := by
  intro e; subst e; rw [h] at h'; cases h'

section
variable (P : Program) (w : World)
def ObjOk (H : Hp) (h : Heap) (a : Addr) : HO → Prop
  | .lst xs => xs.length ≤ sizeLine ∧ ∃ (its : List Value) (n : Nat), Vals xs its ∧ h.get? a = some { cls := .type "list", data := .seq its.toArray n }
  | .tup xs => xs.length ≤ sizeLine ∧ ∃ its : List Value, Vals xs its ∧ IsTupP h a its.toArray
  | .dK kvs => kvs.length ≤ sizeLine ∧ (a == sysModules) = false ∧ ∃ vs, KV kvs vs ∧ h.DictOf (mixKind P w) a vs
  | .dT kvs => kvs.length ≤ sizeLine ∧ (a == sysModules) = false ∧ ∃ xs : List (List Key × Addr × Value),
      Paired (fun (p : List Key × V) (q : List Key × Addr × Value) => p.1 = q.1 ∧ H q.2.1 = some (.tup (p.1.map kV)) ∧ RelV p.2 q.2.2) kvs xs ∧
      ∃ o es ep, h.get? a = some o ∧ o.ExactDict ∧ o.data = .dict es ep ∧ es.toList = xs.map (entryOfKey (tupleKind (mixKind P w))) ∧ (xs.map (·.1)).Nodup
  | .set S n => h.SetOf (intKind P w) a S n
  | .ins C dx fs => H dx = some (.own a) ∧ fs.length ≤ 1000 ∧ dx ≠ a ∧ h.get? a = some (PySem.W.instObj C dx) ∧
      ∃ mA, h.Ns1 dx mA ∧ (∀ f, RelO (fs.lookup f) (mA f)) ∧ PySem.Within mA (fs.map (·.1))
  | .own _ => ∃ o, h.get? a = some o
  | .xd fs => ∃ mA, h.Ns1 a mA ∧ ∀ f, RelO (fs.lookup f) (mA f)
  | .rng lo hi => ∃ t u v, h.get? a = some { cls := .type "range", data := .fields #[.int lo t, .int hi u, .int 1 v] }
  | .frz o u => h.get? a = some o ∧ ObjOk H h a u
  | .tbl ps => h.get? a = some { cls := .none, data := .fields ps }
  | .met f x => h.get? a = some (PySem.W.methodObj (.ref f) (.ref x))
  | .ext φ => φ h ∧ (∃ o, h.get? a = some o) ∧ ∀ h1 h2 : Heap, φ h1 → (∀ o, h1.get? a = some o → h2.get? a = some o) → φ h2
/-- the abstract heap is held -/
def HOk (H : Hp) (h : Heap) : Prop := ∀ a o, H a = some o → ObjOk P w H h a o
end

section
variable {P : Program} {w : World} {H H' : Hp} {h h' : Heap} {a : Addr} {o : HO}
theorem ObjOk.lt (x : ObjOk P w H h a o) : a < h.objs.size := by
  cases o with
  | lst xs => obtain ⟨_, _, _, _, e⟩ := x; exact Heap.lt_size e
  | tup xs => obtain ⟨_, _, _, p⟩ := x; exact (show IsTupP _ _ _ from p).tup.lt
  | dK kvs => obtain ⟨_, _, _, _, o, _, _, e, _⟩ := x; exact Heap.lt_size e
  | dT kvs => obtain ⟨_, _, _, _, o, _, _, e, _⟩ := x; exact Heap.lt_size e
  | set S n => obtain ⟨o, _, _, _, e, _⟩ := x; exact Heap.lt_size e
  | ins C dx fs => obtain ⟨_, _, _, e, _⟩ := x; exact Heap.lt_size e
  | own y => obtain ⟨_, e⟩ := x; exact Heap.lt_size e
  | xd fs => obtain ⟨_, ⟨_, _, _, e, _⟩, _⟩ := x; exact Heap.lt_size e
  | rng lo hi => obtain ⟨_, _, _, e⟩ := x; exact Heap.lt_size e
  | frz ob u => obtain ⟨e, _⟩ := x; exact Heap.lt_size e
  | tbl ps => exact Heap.lt_size (show h.get? a = some _ from x)
  | met f y => exact Heap.lt_size (show h.get? a = some _ from x)
  | ext φ => obtain ⟨_, ⟨_, e⟩, _⟩ := x; exact Heap.lt_size e
theorem Paired.mapP {α β : Type} {F G : α → β → Prop} : ∀ {l₁ : List α} {l₂ : List β}, Paired F l₁ l₂ → (∀ a b, F a b → G a b) → Paired G l₁ l₂
  | _, _, .nil, _ => .nil
  | _, _, .cons r t, f => .cons (f _ _ r) (Paired.mapP t f)
/-- what an object's description leans on: its own object, its own dict, the tuples -/
theorem ObjOk.stay (x : ObjOk P w H h a o) (k : ∀ b u, (b = a ∨ H b = some (.own a)) → h.get? b = some u → h'.get? b = some u)
    (ho : ∀ b, H b = some (.own a) → H' b = some (.own a)) (ht : ∀ b xs, H b = some (.tup xs) → H' b = some (.tup xs)) : ObjOk P w H' h' a o := by
  induction o with
  | lst xs => obtain ⟨z, its, n, r, e⟩ := x; exact ⟨z, its, n, r, k _ _ (.inl rfl) e⟩
  | tup xs => obtain ⟨z, its, r, ob, e, c⟩ := x; exact ⟨z, its, r, ob, k _ _ (.inl rfl) e, c⟩
  | dK kvs => obtain ⟨z, y, vs, r, ob, es, ep, e, c⟩ := x; exact ⟨z, y, vs, r, ob, es, ep, k _ _ (.inl rfl) e, c⟩
  | dT kvs =>
    obtain ⟨z, y, xs, r, ob, es, ep, e, c⟩ := x
    exact ⟨z, y, xs, Paired.mapP r fun p q z => ⟨z.1, ht _ _ z.2.1, z.2.2⟩, ob, es, ep, k _ _ (.inl rfl) e, c⟩
  | set S n => obtain ⟨ob, es, ep, t, e, c⟩ := x; exact ⟨ob, es, ep, t, k _ _ (.inl rfl) e, c⟩
  | ins C dx fs =>
    obtain ⟨d, z, ne, e, mA, ⟨od, es, ep, e2, c⟩, r⟩ := x
    exact ⟨ho _ d, z, ne, k _ _ (.inl rfl) e, mA, ⟨od, es, ep, k _ _ (.inr d) e2, c⟩, r⟩
  | own y => obtain ⟨ob, e⟩ := x; exact ⟨ob, k _ _ (.inl rfl) e⟩
  | xd fs => obtain ⟨mA, ⟨od, es, ep, e, c⟩, r⟩ := x; exact ⟨mA, ⟨od, es, ep, k _ _ (.inl rfl) e, c⟩, r⟩
  | rng lo hi => obtain ⟨t, u, v, e⟩ := x; exact ⟨t, u, v, k _ _ (.inl rfl) e⟩
  | frz ob u ih => obtain ⟨e, q⟩ := x; exact ⟨k _ _ (.inl rfl) e, ih q⟩
  | tbl ps =>
    have e : h.get? a = some { cls := .none, data := .fields ps } := x
    show h'.get? a = some { cls := .none, data := .fields ps }
    exact k a _ (.inl rfl) e
  | met f y =>
    have e : h.get? a = some (PySem.W.methodObj (.ref f) (.ref y)) := x
    show h'.get? a = some (PySem.W.methodObj (.ref f) (.ref y))
    exact k a _ (.inl rfl) e
  | ext φ => obtain ⟨p, ⟨o, e⟩, st⟩ := x; exact ⟨st _ _ p fun o q => k _ _ (.inl rfl) q, ⟨o, k _ _ (.inl rfl) e⟩, st⟩
theorem HOk.lt (x : HOk P w H h) (e : H a = some o) : a < h.objs.size := (x a o e).lt
theorem HOk.fresh (x : HOk P w H h) (e : h.objs.size ≤ a) : H a = none := by
  cases q : H a with
  | none => rfl
  | some u => exact absurd (Nat.lt_of_lt_of_le (x.lt q) e) (Nat.lt_irrefl _)
/-- every object of the heap is kept -/
theorem HOk.kept (x : HOk P w H h) (k : ∀ b u, h.get? b = some u → h'.get? b = some u) : HOk P w H h' := fun a o e =>
  (x a o e).stay (fun b u _ q => k b u q) (fun _ q => q) fun _ _ q => q
/-- a new object is laid and tracked -/
theorem HOk.laid (x : HOk P w H h) (k : ∀ b u, h.get? b = some u → h'.get? b = some u) (hp : h.objs.size ≤ a) (new : ObjOk P w (upd H a o) h' a o) : HOk P w (upd H a o) h' := fun b u e => by
  have hn := x.fresh hp
  by_cases hb : b = a
  · subst hb; rw [upd_same] at e; cases e; exact new
  · rw [upd_ne hb] at e
    exact (x b u e).stay (fun c v _ q => k c v q) (fun c q => by rw [upd_ne (ne_of_none q hn)]; exact q) fun c xs q => by rw [upd_ne (ne_of_none q hn)]; exact q
end

/-- what may be read as u: it is u, or a known u -/
def Rd (H : Hp) (a : Addr) (u : HO) : Prop := H a = some u ∨ ∃ o, H a = some (.frz o u)
theorem Rd.of {H : Hp} {a : Addr} {u : HO} (h : H a = some u) : Rd H a u := .inl h
theorem Rd.ok {P : Program} {w : World} {H : Hp} {h : Heap} {a : Addr} {u : HO} (r : Rd H a u) (x : HOk P w H h) : ObjOk P w H h a u := by
  rcases r with r | ⟨o, r⟩
  · exact x a u r
  · obtain ⟨_, q⟩ := x a _ r
    exact q
/-- what may be written -/
def Mut : Option HO → Prop
  | some (.lst _) => True
  | some (.dK _) => True
  | some (.dT _) => True
  | some (.set _ _) => True
  | some (.ins _ _ _) => True
  | some (.ext _) => True
  | _ => False
section
variable {P : Program} {w : World} {H : Hp} {h h' : Heap} {x e : Addr} {o' : HO}
/-- the object at e is changed: x itself, or the dict of the instance x -/
theorem HOk.write (ok : HOk P w H h) (mu : Mut (H x)) (he : e = x ∨ H e = some (.own x)) (k : ∀ b u, b ≠ e → h.get? b = some u → h'.get? b = some u) (heo : ∃ u, h'.get? e = some u)
    (new : ObjOk P w (upd H x o') h' x o') : HOk P w (upd H x o') h' := fun b u q => by
  have nown : ∀ c y, H c = some (.own y) → c ≠ x := fun c y r z => by subst z; rw [r] at mu; exact mu
  have ntup : ∀ c xs, H c = some (.tup xs) → c ≠ x := fun c xs r z => by subst z; rw [r] at mu; exact mu
  by_cases hb : b = x
  · subst hb; rw [upd_same] at q; cases q; exact new
  · rw [upd_ne hb] at q
    by_cases hbe : b = e
    · have q' : H b = some (.own x) := by
        rcases he with z | z
        · exact absurd (hbe.trans z) hb
        · rw [hbe]; exact z
      rw [q] at q'; cases q'
      obtain ⟨v, hv⟩ := heo
      exact ⟨v, by rw [hbe]; exact hv⟩
    · refine (ok b u q).stay (fun c v hc r => k c v ?_ r) (fun c r => by rw [upd_ne (nown c b r)]; exact r) fun c xs r => by rw [upd_ne (ntup c xs r)]; exact r
      rcases hc with rfl | hc
      · exact hbe
      · rintro rfl
        rcases he with z | z
        · exact nown c b hc z
        · rw [hc] at z; cases z; exact hb rfl
end

/-! ### kept unless tracked; of the frames at fs (the callers') the slots may change (an exception that passes writes there); of the records at ex (iterators) nothing is said -/
structure Un (fs ex : List Addr) (H H' : Hp) (h h' : Heap) : Prop where
  keep : ∀ b o, h.get? b = some o → H b = none → b ∉ fs → b ∉ ex → h'.get? b = some o
  slot : ∀ b o, h.get? b = some o → H b = none → b ∈ fs → b ∉ ex → ∃ sl, h'.get? b = some { o with slots := sl }
  free : ∀ b o, h.get? b = some o → H b = none → b ∉ ex → H' b = none
  there : ∀ b o, h.get? b = some o → b ∉ ex → ∃ o', h'.get? b = some o'
  tups : ∀ b xs, H b = some (.tup xs) → H' b = some (.tup xs)
  frzs : ∀ b o u, H b = some (.frz o u) → H' b = some (.frz o u)
  tbls : ∀ b ps, H b = some (.tbl ps) → ∃ more, H' b = some (.tbl (ps ++ more))
section
variable {fs fs' ex ex' : List Addr} {H H1 H2 : Hp} {h h1 h2 h' : Heap} {a x e : Addr} {o : HO}
theorem Un.any (u : Un fs ex H H1 h h1) {b : Addr} {ob : Obj} (q : h.get? b = some ob) (n : H b = none) (hx : b ∉ ex) : ∃ sl, h1.get? b = some { ob with slots := sl } := by
  by_cases hb : b ∈ fs
  · exact u.slot b ob q n hb hx
  · exact ⟨ob.slots, u.keep b ob q n hb hx⟩
theorem Un.trans (a : Un fs ex H H1 h h1) (b : Un fs ex H1 H2 h1 h2) : Un fs ex H H2 h h2 where
  keep := fun c ob q n hc hx => b.keep c ob (a.keep c ob q n hc hx) (a.free c ob q n hx) hc hx
  slot := fun c ob q n hc hx => by
    obtain ⟨sl, e1⟩ := a.slot c ob q n hc hx
    obtain ⟨sl', e2⟩ := b.slot c _ e1 (a.free c ob q n hx) hc hx
    exact ⟨sl', e2⟩
  free := fun c ob q n hx => by
    obtain ⟨o', e1⟩ := a.there c ob q hx
    exact b.free c o' e1 (a.free c ob q n hx) hx
  there := fun c ob q hx => by
    obtain ⟨o', e1⟩ := a.there c ob q hx
    exact b.there c o' e1 hx
  tups := fun c xs q => b.tups c xs (a.tups c xs q)
  frzs := fun c ob xs q => b.frzs c ob xs (a.frzs c ob xs q)
  tbls := fun c ps q => by
    obtain ⟨m1, e1⟩ := a.tbls c ps q
    obtain ⟨m2, e2⟩ := b.tbls c _ e1
    exact ⟨m1 ++ m2, by rw [e2, Array.append_assoc]⟩
theorem Un.kept (k : ∀ b u, h.get? b = some u → h'.get? b = some u) : Un fs ex H H h h' :=
  ⟨fun b ob q _ _ _ => k b ob q, fun b ob q _ _ _ => ⟨ob.slots, k b ob q⟩, fun _ _ _ n _ => n, fun b ob q _ => ⟨ob, k b ob q⟩, fun _ _ q => q, fun _ _ _ q => q, fun _ ps q => ⟨#[], by rw [q]; simp⟩⟩
theorem Un.refl : Un fs ex H H h h := Un.kept fun _ _ q => q
theorem Un.laid (k : ∀ b u, h.get? b = some u → h'.get? b = some u) (hp : h.objs.size ≤ a) (hn : H a = none) : Un fs ex H (upd H a o) h h' where
  keep := fun b u q _ _ _ => k b u q
  slot := fun b u q _ _ _ => ⟨u.slots, k b u q⟩
  free := fun b u q n _ => by rw [upd_ne (Nat.ne_of_lt (Nat.lt_of_lt_of_le (Heap.lt_size q) hp))]; exact n
  there := fun b u q _ => ⟨u, k b u q⟩
  tups := fun b xs q => by rw [upd_ne (ne_of_none q hn)]; exact q
  frzs := fun b u xs q => by rw [upd_ne (ne_of_none q hn)]; exact q
  tbls := fun b ps q => ⟨#[], by rw [upd_ne (ne_of_none q hn), q]; simp⟩
theorem Un.write (mu : Mut (H x)) (he : e = x ∨ H e = some (.own x)) (k : ∀ b u, b ≠ e → h.get? b = some u → h'.get? b = some u) (heo : ∃ u, h'.get? e = some u) : Un fs ex H (upd H x o) h h' := by
  have hx : ∀ b, H b = none → b ≠ x := fun b n z => by subst z; rw [n] at mu; exact mu
  have hb : ∀ b, H b = none → b ≠ e := fun b n z => by
    subst z
    rcases he with r | r
    · exact hx b n r
    · rw [n] at r; cases r
  have hm : ∀ b u, H b = some u → ¬ Mut (some u) → b ≠ x := fun b u q nm z => by subst z; rw [q] at mu; exact nm mu
  refine ⟨fun b u q n _ _ => k b u (hb b n) q, fun b u q n _ _ => ⟨u.slots, k b u (hb b n) q⟩, fun b u q n _ => by rw [upd_ne (hx b n)]; exact n, fun b u q _ => ?_,
    fun b xs q => by rw [upd_ne (hm b _ q fun z => z)]; exact q, fun b u xs q => by rw [upd_ne (hm b _ q fun z => z)]; exact q, fun b ps q => ⟨#[], by rw [upd_ne (hm b _ q fun z => z), q]; simp⟩⟩
  by_cases hbe : b = e
  · subst hbe; exact heo
  · exact ⟨u, k b u hbe q⟩
theorem Un.mono (u : Un fs ex H H1 h h1) (hs : ∀ b ∈ fs, b ∈ fs') (hx : ∀ b ∈ ex, b ∈ ex') : Un fs' ex' H H1 h h1 :=
  ⟨fun b ob q n hb he => u.keep b ob q n (fun z => hb (hs b z)) fun z => he (hx b z), fun _ _ q n _ he => u.any q n fun z => he (hx _ z), fun b ob q n he => u.free b ob q n fun z => he (hx b z), fun b ob q he => u.there b ob q fun z => he (hx b z), u.tups, u.frzs, u.tbls⟩
end

/-! ### the heap without what is tracked -/
def trk (h : Heap) (H : Hp) : List Addr := (List.range h.objs.size).filter fun a => (H a).isSome
def hidT (h : Heap) (H : Hp) : Heap := PySem.W.hideAll h (trk h H)
theorem hidT_size (h : Heap) (H : Hp) : (hidT h H).objs.size = h.objs.size := PySem.W.hideAll_size _ _
theorem hidT_get {h : Heap} {H : Hp} {b : Addr} {o : Obj} (e : h.get? b = some o) (n : H b = none) : (hidT h H).get? b = some o :=
  PySem.W.hideAll_get _ e fun hm => by
    have q : (H b).isSome = true := (List.mem_filter.mp hm).2
    rw [n] at q; simp at q
theorem of_hidT {h : Heap} {H : Hp} {b : Addr} {o : Obj} (e : (hidT h H).get? b = some o) : h.get? b = some o ∧ H b = none := by
  have e' : h.get? b = some o := PySem.W.of_hideAll (trk h H) e
  refine ⟨e', ?_⟩
  cases q : H b with
  | none => rfl
  | some x =>
    have hm : b ∈ trk h H := List.mem_filter.mpr ⟨List.mem_range.mpr (Heap.lt_size e'), by simp [q]⟩
    have z : (hidT h H).get? b = none := PySem.W.hideAll_none (trk h H) hm
    rw [z] at e; cases e

/-! ### OpenK's ledger, filled with every new object but one -/
def allNews (g h : Heap) (L : Addr) : List (Addr × Obj) := (List.range h.objs.size).filterMap fun a => if a = L ∨ (g.get? a).isSome = true then none else (h.get? a).map fun o => (a, o)
def rest (g h : Heap) (L d : Addr) : List (Addr × Obj) := (allNews g h L).filter fun p => decide (p.1 ≠ d)
end L2

namespace L2
open PySem PySem.Spec PyProof.Rows

/-- the module's facts, over the base: the heap at the law's entry without what is tracked there -/
structure Mod (K : PySem.W.Frag) (mg : Str → Option Value) (base : Heap) : Prop where
  kin : K.In base
  glob : base.Ns mainGlobals mg
  blt : ∃ mb, base.Ns builtinsNs mb ∧ ∀ x : Str, x ≠ "__name__" → mb x = bootBuiltins x
  nolimit : base.NoLimit

/-- the context: a def's body (or a comprehension's block) running. base: fixed through the whole law; s₀, H₀: the entry; outer: the frames whose slots others may change (a def's callers); stack: all frames that run;
   ex: iterators that were made ahead of the entry and are walked here (a comprehension's); fn: the names whose cells were made at the entry (a def: all; a comprehension's block: its own); calm: not within an except suite; pn: pins that every state bears; xe: what is wanted of an exception that leaves the code -/
structure Cx where
  prog : Program
  w : World
  K : PySem.W.Frag
  mg : Str → Option Value
  base : Heap
  A : Around
  N : List Str
  s₀ : Shared
  H₀ : Hp
  env : Env
  outer : List Env
  stack : List Env
  ex : List Addr
  fn : Str → Bool
  calm : Bool
  pn : List (Addr × Obj)
  xe : Value → Shared → Prop
/-- the callers' frames -/
def frs (l : List Env) : List Addr := l.filterMap (·.frame)
abbrev Cx.fs (X : Cx) : List Addr := frs X.outer

def Vis (sc : Scope) (x : Str) : Prop := sc.names.lookup x = some .local ∨ sc.names.lookup x = some .cell ∨ sc.names.lookup x = some .free
def Loc (sc : Scope) (x : Str) : Prop := sc.names.lookup x = some .local ∨ sc.names.lookup x = some .cell
def Look (env : Env) (h : Heap) (m : Str → Option Value) (x : Str) (u : Value) : Prop :=
  (env.kindOf x = some .local ∧ m x = some u) ∨ ((env.kindOf x = some .cell ∨ env.kindOf x = some .free) ∧ ∃ c, env.cells.lookup x = some c ∧ h.IsCell c (some u))

structure Cx.Ok (X : Cx) : Prop where
  mod : Mod X.K X.mg X.base
  kind : X.env.scope.kind = .function
  glob : X.env.globals = mainGlobals
  blt : X.env.builtins = builtinsNs
  above : X.s₀.heap.objs.size ≤ X.env.locals
  inj : ∀ x y c, X.env.cells.lookup x = some c → X.env.cells.lookup y = some c → x = y
  has : ∀ x, (X.env.kindOf x = some .cell ∨ X.env.kindOf x = some .free) → ∃ c, X.env.cells.lookup x = some c
  cab : ∀ x c, X.fn x = true → X.env.cells.lookup x = some c → X.s₀.heap.objs.size ≤ c
  hd : X.calm = true → X.A.handled = none
  frames : X.A.frames = some X.stack
  stk : X.stack = X.outer ∨ (X.stack = X.env :: X.outer ∧ X.env.frame = some X.env.locals)
  exf : ∀ b ∈ X.ex, b ≠ X.env.locals ∧ ∀ x c, X.env.cells.lookup x = some c → c ≠ b
  bs : ∀ b o, X.base.get? b = some o → X.s₀.heap.get? b = some o ∧ X.H₀ b = none
  bsz : X.base.objs.size ≤ X.s₀.heap.objs.size
  noex : ∀ b o, X.base.get? b = some o → b ∉ X.ex
  exfs : ∀ b ∈ X.ex, b ∉ X.fs
  funs : X.s₀.heap.FunFrames X.base X.outer
  frf : ∀ b ∈ X.fs, X.H₀ b = none

structure Inv (X : Cx) (pins : List (Addr × Obj)) (σ : List (Option V)) (H : Hp) (s : Shared) : Prop where
  ok : X.Ok
  os : s.os = X.s₀.os
  bare : AllBare s.gens
  base : Un X.fs X.ex X.H₀ H X.s₀.heap s.heap
  loc : ∃ m, s.heap.Ns X.env.locals m ∧ ∀ (i : Nat) (x : Str) (v : V), X.N[i]? = some x → σ[i]? = some (some v) → Vis X.env.scope x → ∃ u, RelV v u ∧ Look X.env s.heap m x u
  cell : ∀ x c, X.env.cells.lookup x = some c → ∃ v, s.heap.IsCell c v
  free : H X.env.locals = none
  freeC : ∀ x c, X.env.cells.lookup x = some c → H c = none
  pin : ∀ p ∈ X.pn ++ pins, s.heap.get? p.1 = some p.2 ∧ H p.1 = none ∧ p.1 ≠ X.env.locals ∧ p.1 ∉ X.fs ∧ ∀ v, p.2.data ≠ .cell v
  hok : HOk X.prog X.w H s.heap
  len : σ.length = X.N.length

section
variable {X : Cx} {pins : List (Addr × Obj)} {σ : List (Option V)} {H H' : Hp} {s : Shared} {h' : Heap}

theorem Cx.Ok.nofr (ok : X.Ok) {b : Addr} {o : Obj} (e : X.base.get? b = some o) : b ∉ X.fs := fun hb => by
  have := (ok.funs.mem hb).1
  rw [e] at this; cases this
theorem Inv.bs (I : Inv X pins σ H s) : ∀ b o, X.base.get? b = some o → s.heap.get? b = some o ∧ H b = none := fun b o e =>
  ⟨I.base.keep b o (I.ok.bs b o e).1 (I.ok.bs b o e).2 (I.ok.nofr e) (I.ok.noex b o e), I.base.free b o (I.ok.bs b o e).1 (I.ok.bs b o e).2 (I.ok.noex b o e)⟩
theorem Inv.bk (I : Inv X pins σ H s) : ∀ b o, X.base.get? b = some o → s.heap.get? b = some o := fun b o e => (I.bs b o e).1
theorem Inv.mod (I : Inv X pins σ H s) : Mod X.K X.mg X.base := I.ok.mod
theorem Inv.kIn (I : Inv X pins σ H s) : X.K.In s.heap := I.ok.mod.kin.keeps I.bk
theorem Inv.nolimit (I : Inv X pins σ H s) : s.heap.NoLimit := I.ok.mod.nolimit.keeps I.bk
/-- the frame over the base: for OpenK's rules (K.In X.base is I.mod.kin) -/
theorem Inv.fr (I : Inv X pins σ H s) : ∃ m, Fr X.base X.env.locals s.heap m :=
  let ⟨m, hn, _⟩ := I.loc
  ⟨m, hn, I.bk, Nat.le_trans I.ok.bsz I.ok.above⟩
theorem Inv.lt (I : Inv X pins σ H s) : X.env.locals < s.heap.objs.size := let ⟨_, hn, _⟩ := I.loc; hn.lt
theorem Inv.sz (I : Inv X pins σ H s) : X.s₀.heap.objs.size ≤ s.heap.objs.size := Nat.le_trans I.ok.above (Nat.le_of_lt I.lt)
theorem Inv.nofs (I : Inv X pins σ H s) {a : Addr} (h : s.heap.objs.size ≤ a) : a ∉ X.fs := fun hb => by
  obtain ⟨_, o, ho, _⟩ := I.ok.funs.mem hb
  exact absurd (Nat.lt_of_lt_of_le (Heap.lt_size ho) (Nat.le_trans I.sz h)) (Nat.lt_irrefl _)
theorem Inv.cne (I : Inv X pins σ H s) : ∀ x c, X.env.cells.lookup x = some c → c ≠ X.env.locals := fun x c e z => by
  obtain ⟨v, o, ho, hd⟩ := I.cell x c e
  obtain ⟨m, ⟨o', es, ep, ho', hd', _⟩, _⟩ := I.loc
  rw [z, ho'] at ho; cases ho; rw [hd'] at hd; cases hd
theorem Inv.funs (I : Inv X pins σ H s) : s.heap.FunFrames X.base X.outer := by
  have all : ∀ (l : List Env), (∀ b ∈ frs l, b ∈ X.fs) → X.s₀.heap.FunFrames X.base l → s.heap.FunFrames X.base l := by
    intro l
    induction l with
    | nil => intro _ _; trivial
    | cons env r ih =>
      intro hs hl
      obtain ⟨hk, ⟨L, o, hf, hn, ho, hd⟩, hr⟩ := hl
      have hL : L ∈ X.fs := hs L (by unfold frs; rw [List.filterMap_cons, hf]; exact List.mem_cons_self)
      obtain ⟨sl, e⟩ := I.base.slot L o ho (I.ok.frf L hL) hL fun z => I.ok.exfs L z hL
      exact ⟨hk, ⟨L, _, hf, hn, e, hd⟩, ih (fun b hb => hs b (by unfold frs; rw [List.filterMap_cons, hf]; exact List.mem_cons_of_mem _ hb)) hr⟩
  exact all X.outer (fun _ hb => hb) I.ok.funs

/-- the frames that run, for a call -/
theorem Inv.stack (I : Inv X pins σ H s) : s.heap.FunFrames X.base X.stack := by
  rcases I.ok.stk with e | ⟨e, hf⟩
  · rw [e]; exact I.funs
  · rw [e]
    obtain ⟨m, hn, _⟩ := I.loc
    refine .cons (by rw [I.ok.kind]; decide) hf hn ?_ I.funs
    exact Heap.get?_none_of_le (Nat.le_trans I.ok.bsz I.ok.above)
theorem Inv.stkSub (I : Inv X pins σ H s) : ∀ b ∈ frs X.stack, b ∈ X.env.locals :: X.fs := fun b hb => by
  rcases I.ok.stk with e | ⟨e, hf⟩
  · rw [e] at hb; exact List.mem_cons_of_mem _ hb
  · rw [e] at hb
    unfold frs at hb
    rw [List.filterMap_cons, hf] at hb
    exact hb
theorem Inv.stkFree (I : Inv X pins σ H s) : ∀ b ∈ frs X.stack, H b = none := fun b hb => by
  rcases List.mem_cons.mp (I.stkSub b hb) with e | hb
  · rw [e]; exact I.free
  · obtain ⟨_, o, ho, _⟩ := I.ok.funs.mem hb
    exact I.base.free b o ho (I.ok.frf b hb) fun z => I.ok.exfs b z hb

/-- THE STEP: the untracked objects but the frame and the records at ch are kept (the callers' frames up to slots), the frame's map is kept, the new abstract heap is held -/
theorem Inv.step {g' : Array GenState} {t' : Nat} {d' : Drawn} {ch : List Addr} (I : Inv X pins σ H s)
    (hch : ∀ b ∈ ch, (b ∈ X.ex ∨ X.s₀.heap.objs.size ≤ b) ∧ b ≠ X.env.locals ∧ (∀ x c, X.env.cells.lookup x = some c → c ≠ b) ∧ ∀ p ∈ X.pn ++ pins, p.1 ≠ b)
    (keep : ∀ b o, b ≠ X.env.locals → b ∉ X.fs → b ∉ ch → s.heap.get? b = some o → H b = none → h'.get? b = some o)
    (slot : ∀ b o, b ≠ X.env.locals → b ∈ X.fs → b ∉ ch → s.heap.get? b = some o → H b = none → ∃ sl, h'.get? b = some { o with slots := sl }) (free : ∀ b o, b ∉ ch → s.heap.get? b = some o → H b = none → H' b = none)
    (there : ∀ b o, b ∉ ch → s.heap.get? b = some o → ∃ o', h'.get? b = some o')
    (tups : ∀ b xs, H b = some (.tup xs) → H' b = some (.tup xs)) (frzs : ∀ b o u, H b = some (.frz o u) → H' b = some (.frz o u)) (tbls : ∀ b ps, H b = some (.tbl ps) → ∃ more, H' b = some (.tbl (ps ++ more)))
    (ns : ∀ m, s.heap.Ns X.env.locals m → h'.Ns X.env.locals m) (hok : HOk X.prog X.w H' h') (hg : AllBare g') :
    Inv X pins σ H' { s with heap := h', gens := g', drawn := d', toks := t' } := by
  have neL : ∀ b o, X.s₀.heap.get? b = some o → b ≠ X.env.locals := fun b o e => Nat.ne_of_lt (Nat.lt_of_lt_of_le (Heap.lt_size e) I.ok.above)
  have neC : ∀ b o, X.s₀.heap.get? b = some o → b ∉ X.ex → b ∉ ch := fun b o e hx hb => by
    rcases (hch b hb).1 with z | z
    · exact hx z
    · exact absurd (Nat.lt_of_lt_of_le (Heap.lt_size e) z) (Nat.lt_irrefl _)
  have cellK : ∀ x c, X.env.cells.lookup x = some c → ∀ v, s.heap.IsCell c v → h'.IsCell c v := fun x c e v ⟨o, ho, hd⟩ => by
    have nch : c ∉ ch := fun z => (hch c z).2.2.1 x c e rfl
    by_cases hc : c ∈ X.fs
    · obtain ⟨sl, q⟩ := slot c o (I.cne x c e) hc nch ho (I.freeC x c e)
      exact ⟨_, q, hd⟩
    · exact ⟨o, keep c o (I.cne x c e) hc nch ho (I.freeC x c e), hd⟩
  refine ⟨I.ok, I.os, hg, ⟨fun b o e n hb hx => ?_, fun b o e n hb hx => ?_, fun b o e n hx => ?_, fun b o e hx => ?_, fun b xs e => tups b xs (I.base.tups b xs e), fun b o xs e => frzs b o xs (I.base.frzs b o xs e), fun b ps e => ?_⟩, ?_, fun x c e => ?_, ?_, fun x c e => ?_, fun p hp => ?_, hok, I.len⟩
  · exact keep b o (neL b o e) hb (neC b o e hx) (I.base.keep b o e n hb hx) (I.base.free b o e n hx)
  · obtain ⟨sl, e1⟩ := I.base.slot b o e n hb hx
    obtain ⟨sl', e2⟩ := slot b _ (neL b o e) hb (neC b o e hx) e1 (I.base.free b o e n hx)
    exact ⟨sl', e2⟩
  · obtain ⟨o', e1⟩ := I.base.there b o e hx
    exact free b o' (neC b o e hx) e1 (I.base.free b o e n hx)
  · obtain ⟨o', e1⟩ := I.base.there b o e hx
    exact there b o' (neC b o e hx) e1
  · obtain ⟨m1, e1⟩ := I.base.tbls b ps e
    obtain ⟨m2, e2⟩ := tbls b _ e1
    exact ⟨m1 ++ m2, by rw [e2, Array.append_assoc]⟩
  · obtain ⟨m, hn, hl⟩ := I.loc
    refine ⟨m, ns m hn, fun i x v e1 e2 e3 => ?_⟩
    obtain ⟨u, r, l⟩ := hl i x v e1 e2 e3
    refine ⟨u, r, ?_⟩
    rcases l with l | ⟨k, c, e, z⟩
    · exact .inl l
    · exact .inr ⟨k, c, e, cellK x c e _ z⟩
  · obtain ⟨v, z⟩ := I.cell x c e
    exact ⟨v, cellK x c e v z⟩
  · obtain ⟨m, ⟨o, _, _, ho, _⟩, _⟩ := I.loc
    exact free _ o (fun z => (hch _ z).2.1 rfl) ho I.free
  · obtain ⟨v, o, ho, hd⟩ := I.cell x c e
    exact free c o (fun z => (hch c z).2.2.1 x c e rfl) ho (I.freeC x c e)
  · obtain ⟨e, n, ne, nf, d⟩ := I.pin p hp
    have nch : p.1 ∉ ch := fun z => (hch p.1 z).2.2.2 p hp rfl
    exact ⟨keep p.1 p.2 ne nf nch e n, free p.1 p.2 nch e n, ne, nf, d⟩
/-- .. where the frame's own object is kept too -/
theorem Inv.un {t' : Nat} (I : Inv X pins σ H s) (u : Un X.fs [] H H' s.heap h') (hok : HOk X.prog X.w H' h') : Inv X pins σ H' { s with heap := h', toks := t' } := by
  obtain ⟨m, ⟨o, es, ep, ho, r⟩, _⟩ := id I.loc
  obtain ⟨sl, hL⟩ := u.any ho I.free (by simp)
  exact I.step (g' := s.gens) (d' := s.drawn) (ch := []) (fun _ z => nomatch z) (fun b o _ hb _ e n => u.keep b o e n hb (by simp)) (fun b o _ hb _ e n => u.slot b o e n hb (by simp)) (fun b o _ e n => u.free b o e n (by simp)) (fun b o _ e => u.there b o e (by simp)) u.tups u.frzs u.tbls (fun m' hm => by
    obtain ⟨o', es', ep', ho', r'⟩ := hm
    rw [ho] at ho'; cases ho'
    exact ⟨_, es', ep', hL, r'⟩) hok I.bare
/-- behind a call (or a comprehension's block): the slots of this frame may have changed too, the records at ch may have turned -/
theorem Inv.call {g' : Array GenState} {t' : Nat} {d' : Drawn} {ch : List Addr} (I : Inv X pins σ H s) (u : Un (frs X.stack) ch H H' s.heap h') (hok : HOk X.prog X.w H' h') (hg : AllBare g')
    (hch : ∀ b ∈ ch, (b ∈ X.ex ∨ X.s₀.heap.objs.size ≤ b) ∧ b ≠ X.env.locals ∧ (∀ x c, X.env.cells.lookup x = some c → c ≠ b) ∧ ∀ p ∈ X.pn ++ pins, p.1 ≠ b) :
    Inv X pins σ H' { s with heap := h', gens := g', drawn := d', toks := t' } := by
  obtain ⟨m, ⟨o, es, ep, ho, r⟩, _⟩ := id I.loc
  obtain ⟨sl, hL⟩ := u.any ho I.free fun z => (hch _ z).2.1 rfl
  exact I.step (ch := ch) hch (fun b o hL hb hc e n => u.keep b o e n (fun z => (List.mem_cons.mp (I.stkSub b z)).elim hL hb) hc) (fun b o _ _ hc e n => u.any e n hc) (fun b o hc e n => u.free b o e n hc) (fun b o hc e => u.there b o e hc) u.tups u.frzs u.tbls (fun m' hm => by
    obtain ⟨o', es', ep', ho', r'⟩ := hm
    rw [ho] at ho'; cases ho'
    exact ⟨_, es', ep', hL, r'⟩) hok hg
/-- an untracked record of ours (an iterator) has turned -/
theorem Inv.turned {t' : Nat} {it : Addr} (I : Inv X pins σ H s) (k : ∀ b o, b ≠ it → s.heap.get? b = some o → h'.get? b = some o) (hn : H it = none) (hL : it ≠ X.env.locals)
    (h1 : it ∈ X.ex ∨ X.s₀.heap.objs.size ≤ it) (h2 : ∀ x c, X.env.cells.lookup x = some c → c ≠ it) (h3 : ∀ p ∈ X.pn ++ pins, p.1 ≠ it) : Inv X pins σ H { s with heap := h', toks := t' } := by
  have nit : ∀ b u, H b = some u → b ≠ it := fun b u e z => by rw [z, hn] at e; cases e
  refine I.step (g' := s.gens) (d' := s.drawn) (ch := [it]) (fun b hb => ?_) (fun b o _ _ hc e _ => k b o (fun z => hc (by simp [z])) e) (fun b o _ _ hc e _ => ⟨o.slots, k b o (fun z => hc (by simp [z])) e⟩) (fun _ _ _ _ n => n)
    (fun b o hc e => ⟨o, k b o (fun z => hc (by simp [z])) e⟩) (fun _ _ e => e) (fun _ _ _ e => e) (fun b ps e => ⟨#[], by rw [e]; simp⟩) (fun m hm => ?_) (fun b u e => ?_) I.bare
  · have e : b = it := by simpa using hb
    subst e
    exact ⟨h1, hL, h2, h3⟩
  · obtain ⟨o, es, ep, ho, r⟩ := hm
    exact ⟨o, es, ep, k _ o (Ne.symm hL) ho, r⟩
  · refine (I.hok b u e).stay (fun c v hc q => k c v ?_ q) (fun _ q => q) fun _ _ q => q
    rcases hc with z | z
    · rw [z]; exact nit b u e
    · exact nit c _ z
theorem Inv.tok (I : Inv X pins σ H s) (t : Nat) : Inv X pins σ H { s with toks := t } := I.un (h' := s.heap) (t' := t) Un.refl I.hok
/-- all objects kept -/
theorem Inv.kept {t' : Nat} (I : Inv X pins σ H s) (k : ∀ b u, s.heap.get? b = some u → h'.get? b = some u) : Inv X pins σ H { s with heap := h', toks := t' } := I.un (Un.kept k) (I.hok.kept k)
/-- a new object laid and tracked -/
theorem Inv.laid {a : Addr} {o : HO} {t' : Nat} (I : Inv X pins σ H s) (k : ∀ b u, s.heap.get? b = some u → h'.get? b = some u) (hp : s.heap.objs.size ≤ a) (new : ObjOk X.prog X.w (upd H a o) h' a o) :
    Inv X pins σ (upd H a o) { s with heap := h', toks := t' } := I.un (Un.laid k hp (I.hok.fresh hp)) (I.hok.laid k hp new)
/-- an object written -/
theorem Inv.write {x e : Addr} {o : HO} {t' : Nat} (I : Inv X pins σ H s) (mu : Mut (H x)) (he : e = x ∨ H e = some (.own x)) (k : ∀ b u, b ≠ e → s.heap.get? b = some u → h'.get? b = some u) (heo : ∃ u, h'.get? e = some u)
    (new : ObjOk X.prog X.w (upd H x o) h' x o) : Inv X pins σ (upd H x o) { s with heap := h', toks := t' } := I.un (Un.write mu he k heo) (I.hok.write mu he k heo new)
theorem Inv.pins_of {pins' : List (Addr × Obj)} (I : Inv X pins σ H s) (h : ∀ p ∈ pins', s.heap.get? p.1 = some p.2 ∧ H p.1 = none ∧ p.1 ≠ X.env.locals ∧ p.1 ∉ X.fs ∧ ∀ v, p.2.data ≠ .cell v) : Inv X pins' σ H s :=
  ⟨I.ok, I.os, I.bare, I.base, I.loc, I.cell, I.free, I.freeC, fun p hp => (List.mem_append.mp hp).elim (fun z => I.pin p (List.mem_append_left _ z)) (h p), I.hok, I.len⟩

theorem nodup_ix {N : List Str} (hN : N.Nodup) {i j : Nat} {x : Str} (a : N[i]? = some x) (b : N[j]? = some x) : i = j := by
  obtain ⟨h1, e1⟩ := List.getElem?_eq_some_iff.mp a
  obtain ⟨h2, e2⟩ := List.getElem?_eq_some_iff.mp b
  exact (List.getElem_inj hN).mp (e1.trans e2.symm)

/-- a name is stored; what changed -/
theorem store_ok2 {M : Model} {A : Around} {E : Value → Shared → Prop} {i : Nat} {x : Str} {v : V} {u : Value} {Q : Unit → Shared → Prop} (I : Inv X pins σ H s) (hN : X.N.Nodup) (hi : X.N[i]? = some x) (hx : Loc X.env.scope x) (r : RelV v u)
    (h : ∀ s', Inv X pins (σ.set i (some v)) H s' → (∃ a, Heap.SameBut a s.heap s'.heap ∧ (a = X.env.locals ∨ X.env.cells.lookup x = some a)) → Q () s') (hf : X.fn x = true ∨ X.env.scope.names.lookup x = some .local := by first | exact .inl rfl | exact .inr rfl | assumption) : wpAny M A (storeName X.env x u) Q E s := by
  obtain ⟨m, hn, hl⟩ := id I.loc
  have hcls : (X.env.scope.kind == .class || (X.env.scope.kind == .module && X.env.locals != X.env.globals)) = false := by rw [I.ok.kind]; rfl
  have hiσ : i < σ.length := by rw [I.len]; exact (List.getElem?_eq_some_iff.mp hi).1
  have cne := I.cne
  have tracked : ∀ {a : Addr} {h' : Heap}, (∃ o, s.heap.get? a = some o ∧ H a = none) → Heap.SameBut a s.heap h' → HOk X.prog X.w H h' := fun {a h'} ha hs b ob e => by
    obtain ⟨_, _, hfree⟩ := ha
    refine (I.hok b ob e).stay (fun c w' hc q => (hs.2 c ?_).trans q) (fun _ q => q) fun _ _ q => q
    rintro rfl
    rcases hc with rfl | hc
    · rw [hfree] at e; cases e
    · rw [hfree] at hc; cases hc
  rcases hx with hk | hk
  · refine wpAny_storeName_local hk hn (fun h' hn' hs => ?_) hcls
    obtain ⟨oL, _, _, hoL, _⟩ := id hn
    refine h _ ⟨I.ok, I.os, I.bare, ⟨fun b o e n hb hx => ?_, fun b o e n hb hx => ?_, I.base.free, fun b o e hx => ?_, I.base.tups, I.base.frzs, I.base.tbls⟩, ⟨_, hn', fun j y v' e1 e2 e3 => ?_⟩, fun y c e => ?_, I.free, I.freeC, fun p hp => ?_, tracked ⟨oL, hoL, I.free⟩ hs, by simpa using I.len⟩ ⟨_, hs, .inl rfl⟩
    · exact (hs.2 b (Nat.ne_of_lt (Nat.lt_of_lt_of_le (Heap.lt_size e) I.ok.above))).trans (I.base.keep b o e n hb hx)
    · obtain ⟨sl, e1⟩ := I.base.slot b o e n hb hx
      exact ⟨sl, (hs.2 b (Nat.ne_of_lt (Nat.lt_of_lt_of_le (Heap.lt_size e) I.ok.above))).trans e1⟩
    · obtain ⟨o', e1⟩ := I.base.there b o e hx
      exact ⟨o', (hs.2 b (Nat.ne_of_lt (Nat.lt_of_lt_of_le (Heap.lt_size e) I.ok.above))).trans e1⟩
    · by_cases hj : j = i
      · subst hj
        rw [hi] at e1; cases e1
        rw [List.getElem?_set_self hiσ] at e2
        cases e2
        exact ⟨u, r, .inl ⟨hk, by simp⟩⟩
      · rw [List.getElem?_set_ne (Ne.symm hj)] at e2
        obtain ⟨u', r', q⟩ := hl j y v' e1 e2 e3
        refine ⟨u', r', ?_⟩
        rcases q with ⟨k, e⟩ | ⟨k, c, e, z⟩
        · refine .inl ⟨k, ?_⟩
          have : y ≠ x := fun e => hj (nodup_ix hN e1 (e ▸ hi))
          simp [this, e]
        · exact .inr ⟨k, c, e, z.sameBut hs (cne y c e)⟩
    · obtain ⟨w', z⟩ := I.cell y c e
      exact ⟨w', z.sameBut hs (cne y c e)⟩
    · obtain ⟨e, n, ne, nf, d⟩ := I.pin p hp
      exact ⟨(hs.2 p.1 ne).trans e, n, ne, nf, d⟩
  · have hfn : X.fn x = true := by
      rcases hf with z | z
      · exact z
      · rw [z] at hk; cases hk
    obtain ⟨c, hc⟩ := I.ok.has x (.inl hk)
    obtain ⟨w', z⟩ := I.cell x c hc
    refine wpAny_storeName_cell I.ok.kind hk hc z (fun h' hc' hs => ?_)
    obtain ⟨oc, hoc, hocd⟩ := id z
    refine h { s with heap := h' } ⟨I.ok, I.os, I.bare, ⟨fun b o e n hb hx => ?_, fun b o e n hb hx => ?_, I.base.free, fun b o e hx => ?_, I.base.tups, I.base.frzs, I.base.tbls⟩, ⟨m, hn.sameBut hs (Ne.symm (cne x c hc)), fun j y v' e1 e2 e3 => ?_⟩, fun y c' e => ?_, I.free, I.freeC, fun p hp => ?_, tracked ⟨oc, hoc, I.freeC x c hc⟩ hs, by simpa using I.len⟩ ⟨c, hs, .inr hc⟩
    · exact (hs.2 b (Nat.ne_of_lt (Nat.lt_of_lt_of_le (Heap.lt_size e) (I.ok.cab x c hfn hc)))).trans (I.base.keep b o e n hb hx)
    · obtain ⟨sl, e1⟩ := I.base.slot b o e n hb hx
      exact ⟨sl, (hs.2 b (Nat.ne_of_lt (Nat.lt_of_lt_of_le (Heap.lt_size e) (I.ok.cab x c hfn hc)))).trans e1⟩
    · obtain ⟨o', e1⟩ := I.base.there b o e hx
      exact ⟨o', (hs.2 b (Nat.ne_of_lt (Nat.lt_of_lt_of_le (Heap.lt_size e) (I.ok.cab x c hfn hc)))).trans e1⟩
    · by_cases hj : j = i
      · subst hj
        rw [hi] at e1; cases e1
        rw [List.getElem?_set_self hiσ] at e2
        cases e2
        exact ⟨u, r, .inr ⟨.inl hk, c, hc, hc'⟩⟩
      · rw [List.getElem?_set_ne (Ne.symm hj)] at e2
        obtain ⟨u', r', q⟩ := hl j y v' e1 e2 e3
        refine ⟨u', r', ?_⟩
        rcases q with q | ⟨k, c', e, z'⟩
        · exact .inl q
        · refine .inr ⟨k, c', e, z'.sameBut hs ?_⟩
          rintro rfl
          exact hj (nodup_ix hN e1 (I.ok.inj _ _ _ e hc ▸ hi))
    · by_cases hcc : c' = c
      · subst hcc; exact ⟨_, hc'⟩
      · obtain ⟨w2, z2⟩ := I.cell y c' e
        exact ⟨w2, z2.sameBut hs hcc⟩
    · obtain ⟨e, n, ne, nf, d⟩ := I.pin p hp
      refine ⟨(hs.2 p.1 ?_).trans e, n, ne, nf, d⟩
      intro q
      rw [q, hoc] at e
      have q' : oc = p.2 := Option.some.inj e
      exact d w' (by rw [← q']; exact hocd)
theorem store_ok {M : Model} {A : Around} {E : Value → Shared → Prop} {i : Nat} {x : Str} {v : V} {u : Value} {Q : Unit → Shared → Prop} (I : Inv X pins σ H s) (hN : X.N.Nodup) (hi : X.N[i]? = some x) (hx : Loc X.env.scope x) (r : RelV v u)
    (h : ∀ s', Inv X pins (σ.set i (some v)) H s' → Q () s') (hf : X.fn x = true ∨ X.env.scope.names.lookup x = some .local := by first | exact .inl rfl | exact .inr rfl | assumption) : wpAny M A (storeName X.env x u) Q E s :=
  store_ok2 I hN hi hx r (fun s' I' _ => h s' I') hf
/-- behind a call or a block, the state as it is -/
theorem Inv.call' {s' : Shared} {ch : List Addr} (I : Inv X pins σ H s) (ho : s'.os = s.os) (u : Un (frs X.stack) ch H H' s.heap s'.heap) (hok : HOk X.prog X.w H' s'.heap) (hg : AllBare s'.gens)
    (hch : ∀ b ∈ ch, (b ∈ X.ex ∨ X.s₀.heap.objs.size ≤ b) ∧ b ≠ X.env.locals ∧ (∀ x c, X.env.cells.lookup x = some c → c ≠ b) ∧ ∀ p ∈ X.pn ++ pins, p.1 ≠ b) : Inv X pins σ H' s' := by
  obtain ⟨h', g', d', t', o'⟩ := s'
  have e : o' = s.os := ho
  subst e
  exact I.call (g' := g') (t' := t') (d' := d') u hok hg hch
end

/-! ### the judgements -/
/-- an exception: its class, its own dict's address (where it has one), the abstract heap behind it -/
abbrev XK := Value → Option Addr → Hp → Prop
abbrev St := List (Option V)
abbrev VK := V → Hp → Prop
/-- an expression's reading; a test's; an argument list's -/
abbrev TE := St → Hp → VK → Prop
abbrev TT := St → Hp → (Bool → Hp → Prop) → Prop
abbrev TA := St → Hp → (List V → Hp → Prop) → Prop
/-- what is wanted behind a statement -/
structure Ends where
  nx : St → Hp → Prop
  rt : VK
  bk : St → Hp → Prop := fun _ _ => False
  ct : St → Hp → Prop := fun _ _ => False
abbrev TS := Ends → St → Hp → Prop

def EP (X : Cx) (pins : List (Addr × Obj)) (σ : St) (Q : VK) (u : Value) (s' : Shared) : Prop := ∃ v H', Inv X pins σ H' s' ∧ RelV v u ∧ Q v H'
def TP (X : Cx) (pins : List (Addr × Obj)) (σ : St) (Q : Bool → Hp → Prop) (b : Bool) (s' : Shared) : Prop := ∃ H', Inv X pins σ H' s' ∧ Q b H'
def AP (X : Cx) (pins : List (Addr × Obj)) (σ : St) (Q : List V → Hp → Prop) (us : List Value) (s' : Shared) : Prop := ∃ vs H', Inv X pins σ H' s' ∧ Vals vs us ∧ Q vs H'
def SP (X : Cx) (pins : List (Addr × Obj)) (D : Ends) (f : Flow) (s' : Shared) : Prop :=
  match f with
  | .next => ∃ σ' H', Inv X pins σ' H' s' ∧ D.nx σ' H'
  | .brk => ∃ σ' H', Inv X pins σ' H' s' ∧ D.bk σ' H'
  | .cont => ∃ σ' H', Inv X pins σ' H' s' ∧ D.ct σ' H'
  | .ret u => ∃ v σ' H', Inv X pins σ' H' s' ∧ RelV v u ∧ D.rt v H'

def PE (X : Cx) (e : Expr) (t : TE) : Prop :=
  ∀ (pins : List (Addr × Obj)) (s : Shared) (σ : St) (H : Hp) (Q : VK), Inv X pins σ H s → t σ H Q → wpAny (model X.prog X.w) X.A (eval e X.env) (EP X pins σ Q) X.xe s
def PT (X : Cx) (e : Expr) (t : TT) : Prop :=
  ∀ (pins : List (Addr × Obj)) (s : Shared) (σ : St) (H : Hp) (Q : Bool → Hp → Prop), Inv X pins σ H s → t σ H Q → wpAny (model X.prog X.w) X.A (isTrue e X.env (eval e X.env)) (TP X pins σ Q) X.xe s
/-- a test whatever its 'whole' is (and, or) -/
def PW (X : Cx) (e : Expr) (t : TT) : Prop :=
  ∀ (whole : Sem Value) (pins : List (Addr × Obj)) (s : Shared) (σ : St) (H : Hp) (Q : Bool → Hp → Prop), Inv X pins σ H s → t σ H Q → wpAny (model X.prog X.w) X.A (isTrue e X.env whole) (TP X pins σ Q) X.xe s
theorem PW.pt {X : Cx} {e : Expr} {t : TT} (h : PW X e t) : PT X e t := h _
/-- an argument list (no star), from the left -/
def PA (X : Cx) (es : List Expr) (t : TA) : Prop :=
  ∀ (pos : Pos) (pins : List (Addr × Obj)) (s : Shared) (σ : St) (H : Hp) (Q : List V → Hp → Prop), Inv X pins σ H s → t σ H Q → wpAny (model X.prog X.w) X.A (spliced (backTo pos (starEach es X.env))) (AP X pins σ Q) X.xe s
def PS (X : Cx) (st : Stmt) (t : TS) : Prop :=
  ∀ (pins : List (Addr × Obj)) (s : Shared) (σ : St) (H : Hp) (D : Ends), Inv X pins σ H s → t D σ H → wpAny (model X.prog X.w) X.A (exec st X.env) (SP X pins D) X.xe s
def PSs (X : Cx) (st : List Stmt) (t : TS) : Prop :=
  ∀ (pins : List (Addr × Obj)) (s : Shared) (σ : St) (H : Hp) (D : Ends), Inv X pins σ H s → t D σ H → wpAny (model X.prog X.w) X.A (execs st X.env) (SP X pins D) X.xe s
/-- weaken the end -/
theorem thn {α : Type} {t : Sem α} {Q Q' : α → Shared → Prop} {M : Model} {A : Around} {E : Value → Shared → Prop} {s : Shared} (h : wpAny M A t Q E s) (hQ : ∀ a s, Q a s → Q' a s) : wpAny M A t Q' E s := wpAny_mono h hQ fun _ _ x => x
end L2

namespace L2
open PySem PySem.Spec PyProof.Rows
section
variable {X : Cx}

/-! ### names and constants -/
def tVar (i : Nat) : TE := fun σ H Q => ∃ v, σ[i]? = some (some v) ∧ Q v H
def tC (v : V) : TE := fun _ H Q => Q v H
theorem pe_var {i : Nat} {x : Str} {pos : Pos} (hN : X.N[i]? = some x) (hv : Vis X.env.scope x) (hd : (x == ("__debug__" : Str)) = false := by decide) (hcd : (x == ("__classdict__" : Str)) = false := by decide) : PE X (.Name x pos) (tVar i) := by
  intro pins s σ H Q I h
  obtain ⟨v, e, h⟩ := h
  obtain ⟨m, hn, hl⟩ := I.loc
  obtain ⟨u, r, l⟩ := hl i x v hN e hv
  have fin : EP X pins σ Q u s := ⟨v, H, I, r, h⟩
  rcases l with ⟨hk, hm⟩ | ⟨hk, c, hc, hcell⟩
  · exact wpAny_Name (wpAny_loadName_local I.ok.kind hk hn hm fin) hd
  · rcases hk with hk | hk
    · exact wpAny_Name (wpAny_loadName_cell I.ok.kind hk hc hcell fin) hd
    · exact wpAny_Name (wpAny_loadName_free I.ok.kind hk hc hcell fin hcd) hd
theorem pe_int {i j pos} : PE X (.Constant (.int i) j pos) (tC (.int i)) := fun _ _ _ H _ I h => wpAny_Constant_int ⟨.int i, H, I.tok _, ⟨_, rfl⟩, h⟩
theorem pe_bl {b j pos} : PE X (.Constant (.bool b) j pos) (tC (.bl b)) := fun _ _ _ H _ I h => Constant_bool ⟨.bl b, H, I, rfl, h⟩
theorem pe_non {j pos} : PE X (.Constant .none j pos) (tC .non) := fun _ _ _ H _ I h => Constant_none ⟨.non, H, I, rfl, h⟩
theorem pe_str {x j pos} : PE X (.Constant (.str x) j pos) (tC (.str x)) := fun _ _ _ H _ I h => Calls.Constant_str ⟨.str x, H, I.tok _, ⟨_, rfl⟩, h⟩

/-- a global name of the def -/
def Gl (X : Cx) (x : Str) : Prop := X.env.kindOf x = some .globalImplicit
theorem ld_glob {E : Value → Shared → Prop} {pins : List (Addr × Obj)} {s : Shared} {σ : St} {H : Hp} {x : Str} {u : Value} {pos : Pos} {Q : Value → Shared → Prop} (I : Inv X pins σ H s) (hg : Gl X x) (hm : X.mg x = some u) (h : Q u s)
    (hd : (x == ("__debug__" : Str)) = false := by decide) : wpAny (model X.prog X.w) X.A (eval (.Name x pos) X.env) Q E s :=
  Calls.Name_function_global I.ok.kind hg (Calls.loadGlobal_global (by rw [I.ok.glob]; exact I.mod.glob.keeps I.bk) hm h) hd
theorem ld_blt {E : Value → Shared → Prop} {pins : List (Addr × Obj)} {s : Shared} {σ : St} {H : Hp} {x : Str} {u : Value} {pos : Pos} {Q : Value → Shared → Prop} (I : Inv X pins σ H s) (hg : Gl X x) (hm : X.mg x = none) (hv : bootBuiltins x = some u) (h : Q u s)
    (hn : x ≠ "__name__" := by decide) (hd : (x == ("__debug__" : Str)) = false := by decide) : wpAny (model X.prog X.w) X.A (eval (.Name x pos) X.env) Q E s := by
  obtain ⟨mb, h1, h2⟩ := I.mod.blt
  exact Calls.Name_function_global I.ok.kind hg (Calls.loadGlobal_builtin (by rw [I.ok.glob]; exact I.mod.glob.keeps I.bk) hm (by rw [I.ok.blt]; exact h1.keeps I.bk) ((h2 x hn).trans hv) h) hd
/-- a module's constant, a class, a function, as a value -/
theorem pe_glob {x : Str} {v : V} {u : Value} {pos : Pos} (hg : Gl X x) (hm : X.mg x = some u) (r : RelV v u) (hd : (x == ("__debug__" : Str)) = false := by decide) : PE X (.Name x pos) (tC v) :=
  fun _ _ _ H _ I h => ld_glob I hg hm ⟨v, H, I, r, h⟩ hd
theorem pe_bltn {x : Str} {v : V} {u : Value} {pos : Pos} (hg : Gl X x) (hm : X.mg x = none) (hv : bootBuiltins x = some u) (r : RelV v u) (hn : x ≠ "__name__" := by decide) (hd : (x == ("__debug__" : Str)) = false := by decide) : PE X (.Name x pos) (tC v) :=
  fun _ _ _ H _ I h => ld_blt I hg hm hv ⟨v, H, I, r, h⟩ hn hd

/-! ### arithmetic -/
/-- two ints -/
def t2I (ta tb : TE) (k : Int → Int → Hp → Prop) : St → Hp → Prop := fun σ H => ta σ H fun x H1 => tb σ H1 fun y H2 => ∃ i j, x = .int i ∧ y = .int j ∧ k i j H2
def tAdd (ta tb : TE) : TE := fun σ H Q => t2I ta tb (fun i j H2 => Q (.int (i + j)) H2) σ H
def tSub (ta tb : TE) : TE := fun σ H Q => t2I ta tb (fun i j H2 => Q (.int (i - j)) H2) σ H
/-- the left factor below 2^64 -/
def tMul (ta tb : TE) : TE := fun σ H Q => t2I ta tb (fun i j H2 => (-(2 ^ 64) < i ∧ i < 2 ^ 64) ∧ Q (.int (i * j)) H2) σ H
variable {a b : Expr} {ta tb : TE} {pos : Pos}
/-! ### comparisons -/
def PC (X : Cx) (op : CmpOp) (a b : Expr) (t : TE) : Prop :=
  ∀ (pins : List (Addr × Obj)) (s : Shared) (σ : St) (H : Hp) (Q : VK), Inv X pins σ H s → t σ H Q →
    wpAny (model X.prog X.w) X.A (eval a X.env) (fun v s₁ => wpAny (model X.prog X.w) X.A (eval b X.env) (fun u s₂ => wpAny (model X.prog X.w) X.A (compareOp op v u) (EP X pins σ Q) X.xe s₂) X.xe s₁) X.xe s
theorem nobehind (b : Expr) {op : CmpOp} (h : op ≠ .In) (h2 : op ≠ .NotIn) : behindInMarks op b = false := by
  have e1 : (op == CmpOp.In) = false := by cases op <;> first | rfl | exact absurd rfl h
  have e2 : (op == CmpOp.NotIn) = false := by cases op <;> first | rfl | exact absurd rfl h2
  cases b <;> simp [behindInMarks, e1, e2]
def tCmp (p : Int → Int → Bool) (ta tb : TE) : TE := fun σ H Q => t2I ta tb (fun i j H2 => Q (.bl (p i j)) H2) σ H
abbrev tLt : TE → TE → TE := tCmp fun i j => decide (i < j)
abbrev tLe : TE → TE → TE := tCmp fun i j => decide (i ≤ j)
abbrev tGt : TE → TE → TE := tCmp fun i j => decide (j < i)
abbrev tGe : TE → TE → TE := tCmp fun i j => decide (j ≤ i)
abbrev tEqI : TE → TE → TE := tCmp fun i j => decide (i = j)
abbrev tNeI : TE → TE → TE := tCmp fun i j => !decide (i = j)
/-- is None -/
def tIsN (ta : TE) : TE := fun σ H Q => ta σ H fun x H1 => Q (.bl (decide (x = .non))) H1
def tNotN (ta : TE) : TE := fun σ H Q => ta σ H fun x H1 => Q (.bl (!decide (x = .non))) H1
theorem RelV.none_iff {x : V} {v : Value} (r : RelV x v) : (v == Value.none) = decide (x = .non) := by
  cases x with
  | non => cases r; rfl
  | bl _ => cases r; rfl
  | int _ => obtain ⟨t, rfl⟩ := r; rfl
  | str _ => obtain ⟨t, rfl⟩ := r; rfl
  | byt _ => obtain ⟨t, rfl⟩ := r; rfl
  | flt _ => obtain ⟨t, rfl⟩ := r; rfl
  | ref _ => cases r; rfl
  | ty _ => cases r; rfl
theorem pc_isN {j pos'} (ha : PE X a ta) : PC X .Is a (.Constant .none j pos') (tIsN ta) := by
  intro pins s σ H Q I h
  refine thn (ha pins s σ H _ I h) fun v s1 ⟨x, H1, I1, r1, q1⟩ => ?_
  exact Constant_none (is_none_gen ⟨.bl _, H1, I1, by rw [r1.none_iff]; rfl, q1⟩)
theorem pc_notN {j pos'} (ha : PE X a ta) : PC X .IsNot a (.Constant .none j pos') (tNotN ta) := by
  intro pins s σ H Q I h
  refine thn (ha pins s σ H _ I h) fun v s1 ⟨x, H1, I1, r1, q1⟩ => ?_
  exact Constant_none (isnot_none_gen ⟨.bl _, H1, I1, by rw [r1.none_iff]; rfl, q1⟩)
/-- a comparison as a value, as a test -/
def tB (t : TE) : TT := fun σ H Q => t σ H fun x H1 => ∃ c, x = .bl c ∧ Q c H1
theorem pe_cmp {op : CmpOp} {t : TE} (h : PC X op a b t) (h1 : behindInMarks op b = false := by first | exact nobehind _ (by decide) (by decide) | rfl) : PE X (.Compare a [op] [b] pos) t := fun pins s σ H Q I hw => wpAny_Compare1 (h pins s σ H Q I hw) h1
theorem pt_cmp {op : CmpOp} {t : TE} (h : PC X op a b t) (h1 : behindInMarks op b = false := by first | exact nobehind _ (by decide) (by decide) | rfl) : PT X (.Compare a [op] [b] pos) (tB t) := by
  intro pins s σ H Q I hw
  refine wpAny_isTrue_Compare1 (thn (h pins s σ H _ I hw) fun v s1 h1 => thn h1 fun u s2 h2 => thn h2 fun c s3 ⟨x, H1, I1, r1, q1⟩ => ?_) h1
  obtain ⟨d, rfl, q⟩ := q1
  cases r1
  exact wpAny_truthy_bool ⟨H1, I1, q⟩
/-- an expression whose value is a bool, as a test -/
theorem pt_val {e : Expr} {t : TE} (h : PE X e t) (he : ∀ whole, isTrue e X.env whole = (do let v ← whole; standAt e.pos; holding [v] (truthy v)) := by intro _; rfl) : PT X e (tB t) := by
  intro pins s σ H Q I hw
  refine isTrue_plain (thn (h pins s σ H _ I hw) fun v s1 ⟨x, H1, I1, r1, q1⟩ => ?_) (he _)
  obtain ⟨d, rfl, q⟩ := q1
  cases r1
  exact wpAny_truthy_bool ⟨H1, I1, q⟩

/-! ### and, or, not -/
variable {tA tB' : TT} {rest : List Expr}
def tAnd (t u : TT) : TT := fun σ H Q => t σ H fun c H1 => if c = true then u σ H1 Q else Q false H1
def tOr (t u : TT) : TT := fun σ H Q => t σ H fun c H1 => if c = true then Q true H1 else u σ H1 Q
def tNot (t : TT) : TT := fun σ H Q => t σ H fun c H1 => Q (!c) H1
theorem pw_and1 (ha : PT X a tA) : PW X (.BoolOp .And [a] pos) tA := by
  intro wh pins s σ H Q I h
  refine isTrue_and (thn (ha pins s σ H Q I h) fun c s1 e => ?_)
  cases c with
  | true => exact isTrue_and_nil e
  | false => exact e
theorem pw_or1 (ha : PT X a tA) : PW X (.BoolOp .Or [a] pos) tA := by
  intro wh pins s σ H Q I h
  refine isTrue_or (thn (ha pins s σ H Q I h) fun c s1 e => ?_)
  cases c with
  | false => exact isTrue_or_nil e
  | true => exact e
theorem pw_and (ha : PT X a tA) (hb : PW X (.BoolOp .And (b :: rest) pos) tB') : PW X (.BoolOp .And (a :: b :: rest) pos) (tAnd tA tB') := by
  intro wh pins s σ H Q I h
  refine isTrue_and (thn (ha pins s σ H _ I h) fun c s1 ⟨H1, I1, q1⟩ => ?_)
  cases c with
  | true => exact hb wh pins s1 σ H1 Q I1 q1
  | false => exact ⟨H1, I1, q1⟩
theorem pw_or (ha : PT X a tA) (hb : PW X (.BoolOp .Or (b :: rest) pos) tB') : PW X (.BoolOp .Or (a :: b :: rest) pos) (tOr tA tB') := by
  intro wh pins s σ H Q I h
  refine isTrue_or (thn (ha pins s σ H _ I h) fun c s1 ⟨H1, I1, q1⟩ => ?_)
  cases c with
  | true => exact ⟨H1, I1, q1⟩
  | false => exact hb wh pins s1 σ H1 Q I1 q1
theorem pt_not (ha : PT X a tA) : PT X (.UnaryOp .Not a pos) (tNot tA) := by
  intro pins s σ H Q I h
  exact isTrue_not (ha pins s σ H (fun c H1 => Q (!c) H1) I h)
/-- .. as values (bools) -/
def tAndV (ta tb : TE) : TE := fun σ H Q => ta σ H fun x H1 => ∃ c, x = .bl c ∧ if c = true then tb σ H1 Q else Q (.bl false) H1
def tOrV (ta tb : TE) : TE := fun σ H Q => ta σ H fun x H1 => ∃ c, x = .bl c ∧ if c = true then Q (.bl true) H1 else tb σ H1 Q
def tNotV (ta : TE) : TE := fun σ H Q => ta σ H fun x H1 => ∃ c, x = .bl c ∧ Q (.bl (!c)) H1
theorem pe_one {op} {t : TE} (h : PE X a t) : PE X (.BoolOp op [a] pos) t := fun pins s σ H Q I hw => BoolOp_one (h pins s σ H Q I hw)
theorem pe_and (ha : PE X a ta) (hb : PE X (.BoolOp .And (b :: rest) pos) tb) : PE X (.BoolOp .And (a :: b :: rest) pos) (tAndV ta tb) := by
  intro pins s σ H Q I h
  refine BoolOp_and (thn (ha pins s σ H _ I h) fun v s1 ⟨x, H1, I1, r1, q1⟩ => ?_)
  obtain ⟨c, rfl, q1⟩ := q1
  cases r1
  refine wpAny_truthy_bool ?_
  cases c with
  | true => exact hb pins s1 σ H1 Q I1 q1
  | false => exact ⟨.bl false, H1, I1, rfl, q1⟩
theorem pe_or (ha : PE X a ta) (hb : PE X (.BoolOp .Or (b :: rest) pos) tb) : PE X (.BoolOp .Or (a :: b :: rest) pos) (tOrV ta tb) := by
  intro pins s σ H Q I h
  refine BoolOp_or (thn (ha pins s σ H _ I h) fun v s1 ⟨x, H1, I1, r1, q1⟩ => ?_)
  obtain ⟨c, rfl, q1⟩ := q1
  cases r1
  refine wpAny_truthy_bool ?_
  cases c with
  | false => exact hb pins s1 σ H1 Q I1 q1
  | true => exact ⟨.bl true, H1, I1, rfl, q1⟩
theorem pe_not (ha : PE X a ta) : PE X (.UnaryOp .Not a pos) (tNotV ta) := by
  intro pins s σ H Q I h
  refine UnaryOp_ (thn (ha pins s σ H _ I h) fun v s1 ⟨x, H1, I1, r1, q1⟩ => ?_)
  obtain ⟨c, rfl, q1⟩ := q1
  cases r1
  exact not_of (wpAny_truthy_bool ⟨.bl (!c), H1, I1, rfl, q1⟩)
/-- a if t else b -/
def tIf (t : TT) (ta tb : TE) : TE := fun σ H Q => t σ H fun c H1 => if c = true then ta σ H1 Q else tb σ H1 Q
theorem pe_ifExp {c : Expr} (hc : PT X c tA) (ha : PE X a ta) (hb : PE X b tb) : PE X (.IfExp c a b pos) (tIf tA ta tb) := by
  intro pins s σ H Q I h
  refine wpAny_IfExp (thn (hc pins s σ H _ I h) fun d s1 ⟨H1, I1, q1⟩ => ?_)
  cases d with
  | true => exact ha pins s1 σ H1 Q I1 q1
  | false => exact hb pins s1 σ H1 Q I1 q1
end
end L2

namespace L2
open PySem PySem.Spec PyProof.Rows

/-! ### a list, a tuple that is read: tracked, frozen, or an object of the module -/
def SqL (K : PySem.W.Frag) (H : Hp) (a : Addr) (xs : List V) : Prop :=
  Rd H a (.lst xs) ∨
    ∃ (o : Obj) (its : Array Value) (n : Nat), K.lookup a = some o ∧ o.cls = .type "list" ∧ o.dict = none ∧ o.data = .seq its n ∧ its.size ≤ sizeLine ∧ Vals xs its.toList
def SqT (K : PySem.W.Frag) (H : Hp) (a : Addr) (xs : List V) : Prop :=
  Rd H a (.tup xs) ∨
    ∃ (o : Obj) (its : Array Value) (n : Nat), K.lookup a = some o ∧ o.cls = .type "tuple" ∧ o.data = .seq its n ∧ its.size ≤ sizeLine ∧ Vals xs its.toList
def absV : Value → Option V
  | .none => some .non
  | .bool b => some (.bl b)
  | .int i _ => some (.int i)
  | .str x _ => some (.str x)
  | .bytes b _ => some (.byt b)
  | .float b _ => some (.flt b)
  | .ref a => some (.ref a)
  | .type n => some (.ty n)
  | _ => none
theorem RelV.abs {x : V} {u : Value} (r : RelV x u) : absV u = some x := by
  cases x with
  | non => cases r; rfl
  | bl _ => cases r; rfl
  | int _ => obtain ⟨t, rfl⟩ := r; rfl
  | str _ => obtain ⟨t, rfl⟩ := r; rfl
  | byt _ => obtain ⟨t, rfl⟩ := r; rfl
  | flt _ => obtain ⟨t, rfl⟩ := r; rfl
  | ref _ => cases r; rfl
  | ty _ => cases r; rfl
theorem RelV.inj {x y : V} {u : Value} (r : RelV x u) (q : RelV y u) : x = y := Option.some.inj (r.abs.symm.trans q.abs)
theorem Vals.inj : ∀ {xs ys : List V} {us : List Value}, Vals xs us → Vals ys us → xs = ys
  | _, _, _, .nil, .nil => rfl
  | _, _, _, .cons r t, .cons r' t' => by rw [r.inj r', Vals.inj t t']
section
variable {X : Cx} {pins : List (Addr × Obj)} {σ : St} {H : Hp} {s : Shared} {a : Addr} {xs ys : List V}
theorem SqL.of {K : PySem.W.Frag} (h : H a = some (.lst xs)) : SqL K H a xs := .inl (.inl h)
theorem SqT.of {K : PySem.W.Frag} (h : H a = some (.tup xs)) : SqT K H a xs := .inl (.inl h)
theorem Inv.list (I : Inv X pins σ H s) (h : SqL X.K H a xs) : ∃ its : List Value, Vals xs its ∧ PlainL s.heap a its.toArray ∧ xs.length ≤ sizeLine := by
  rcases h with h | ⟨o, its, n, hk, hc, hd, hs, hz, r⟩
  · obtain ⟨z, its, n, r, e⟩ := h.ok I.hok
    exact ⟨its, r, ⟨_, n, e, rfl, rfl, rfl⟩, z⟩
  · refine ⟨its.toList, r, ⟨o, n, I.kIn a o hk, hc, hd, by simpa using hs⟩, ?_⟩
    have e := r.length
    simp only [Array.length_toList] at e
    omega
theorem Inv.tuple (I : Inv X pins σ H s) (h : SqT X.K H a xs) : ∃ its : List Value, Vals xs its ∧ IsTup s.heap a its.toArray ∧ xs.length ≤ sizeLine := by
  rcases h with h | ⟨o, its, n, hk, hc, hs, hz, r⟩
  · obtain ⟨z, its, r, p⟩ := h.ok I.hok
    exact ⟨its, r, p.tup, z⟩
  · refine ⟨its.toList, r, ⟨o, I.kIn a o hk, hc, n, by simpa using hs⟩, ?_⟩
    have e := r.length
    simp only [Array.length_toList] at e
    omega
theorem Inv.list_inj (I : Inv X pins σ H s) (h : SqL X.K H a xs) (h' : SqL X.K H a ys) : xs = ys := by
  obtain ⟨its, r, ⟨o, n, e, _, _, d⟩, _⟩ := I.list h
  obtain ⟨its', r', ⟨o', n', e', _, _, d'⟩, _⟩ := I.list h'
  rw [e] at e'; cases e'
  rw [d] at d'
  injection d' with d1 _
  have : its = its' := by simpa using congrArg Array.toList d1
  subst this
  exact r.inj r'
theorem Inv.tuple_inj (I : Inv X pins σ H s) (h : SqT X.K H a xs) (h' : SqT X.K H a ys) : xs = ys := by
  obtain ⟨its, r, ⟨o, e, _, n, d⟩, _⟩ := I.tuple h
  obtain ⟨its', r', ⟨o', e', _, n', d'⟩, _⟩ := I.tuple h'
  rw [e] at e'; cases e'
  rw [d] at d'
  injection d' with d1 _
  have : its = its' := by simpa using congrArg Array.toList d1
  subst this
  exact r.inj r'
end

/-! ### another wish about exceptions -/
abbrev Cx.wish (X : Cx) (E : Value → Shared → Prop) : Cx := { X with xe := E }
/-- no exception leaves -/
abbrev Cx.nox (X : Cx) : Cx := X.wish fun _ _ => False
theorem Cx.Ok.wish {X : Cx} (ok : X.Ok) (E : Value → Shared → Prop) : (X.wish E).Ok :=
  ⟨ok.mod, ok.kind, ok.glob, ok.blt, ok.above, ok.inj, ok.has, ok.cab, ok.hd, ok.frames, ok.stk, ok.exf, ok.bs, ok.bsz, ok.noex, ok.exfs, ok.funs, ok.frf⟩
theorem Cx.Ok.unwish {X : Cx} {E : Value → Shared → Prop} (ok : (X.wish E).Ok) : X.Ok :=
  ⟨ok.mod, ok.kind, ok.glob, ok.blt, ok.above, ok.inj, ok.has, ok.cab, ok.hd, ok.frames, ok.stk, ok.exf, ok.bs, ok.bsz, ok.noex, ok.exfs, ok.funs, ok.frf⟩
section
variable {X : Cx} {pins : List (Addr × Obj)} {σ : St} {H : Hp} {s : Shared} {E : Value → Shared → Prop}
theorem Inv.wish (I : Inv X pins σ H s) (E : Value → Shared → Prop) : Inv (X.wish E) pins σ H s := ⟨I.ok.wish E, I.os, I.bare, I.base, I.loc, I.cell, I.free, I.freeC, I.pin, I.hok, I.len⟩
theorem Inv.unwish (I : Inv (X.wish E) pins σ H s) : Inv X pins σ H s := ⟨I.ok.unwish, I.os, I.bare, I.base, I.loc, I.cell, I.free, I.freeC, I.pin, I.hok, I.len⟩
theorem SP.unwish {D : Ends} {f : Flow} {s' : Shared} (h : SP (X.wish E) pins D f s') : SP X pins D f s' := by
  cases f with
  | next => obtain ⟨σ', H', I, q⟩ := h; exact ⟨σ', H', I.unwish, q⟩
  | brk => obtain ⟨σ', H', I, q⟩ := h; exact ⟨σ', H', I.unwish, q⟩
  | cont => obtain ⟨σ', H', I, q⟩ := h; exact ⟨σ', H', I.unwish, q⟩
  | ret u => obtain ⟨v, σ', H', I, r, q⟩ := h; exact ⟨v, σ', H', I.unwish, r, q⟩
theorem PE.nox {e : Expr} {t : TE} (h : PE X.nox e t) : PE X e t := fun pins s σ H Q I hw =>
  wpAny_mono (h pins s σ H Q (I.wish _) hw) (fun _ _ ⟨v, H', I', r, q⟩ => ⟨v, H', I'.unwish, r, q⟩) fun _ _ z => False.elim z
theorem PT.nox {e : Expr} {t : TT} (h : PT X.nox e t) : PT X e t := fun pins s σ H Q I hw =>
  wpAny_mono (h pins s σ H Q (I.wish _) hw) (fun _ _ ⟨H', I', q⟩ => ⟨H', I'.unwish, q⟩) fun _ _ z => False.elim z
theorem PSs.nox {st : List Stmt} {t : TS} (h : PSs X.nox st t) : PSs X st t := fun pins s σ H D I hw =>
  wpAny_mono (h pins s σ H D (I.wish _) hw) (fun _ _ q => q.unwish) fun _ _ z => False.elim z
end

/-! ### blocks and small statements -/
section
variable {X : Cx} {st : Stmt} {rest : List Stmt} {t u : TS} {e : Expr} {te : TE} {pos : Pos}
def tNext : TS := fun D σ H => D.nx σ H
def tSeq (t u : TS) : TS := fun D σ H => t { D with nx := u D } σ H
theorem pss_nil : PSs X [] tNext := fun _ _ σ H _ I h => wpAny_execs_nil ⟨σ, H, I, h⟩
theorem pss_cons (h1 : PS X st t) (h2 : PSs X rest u) : PSs X (st :: rest) (tSeq t u) := by
  intro pins s σ H D I h
  refine wpAny_execs_cons (thn (h1 pins s σ H { D with nx := u D } I h) fun f s1 q => ?_)
  cases f with
  | next =>
    obtain ⟨σ', H', I', q⟩ := q
    exact h2 pins s1 σ' H' D I' q
  | ret v => exact q
  | brk => exact q
  | cont => exact q
theorem pss_one (h1 : PS X st t) : PSs X [st] t := by
  intro pins s σ H D I h
  refine wpAny_execs_cons (thn (h1 pins s σ H D I h) fun f s1 q => ?_)
  cases f with
  | next => exact wpAny_execs_nil q
  | ret v => exact q
  | brk => exact q
  | cont => exact q
def tBreak : TS := fun D σ H => D.bk σ H
def tCont : TS := fun D σ H => D.ct σ H
/-- in a def's body nothing is shown -/
theorem Inv.quiet {pins : List (Addr × Obj)} {σ : St} {H : Hp} {s : Shared} (I : Inv X pins σ H s) : interactive X.env = false := by simp [interactive, I.ok.kind]
/-- an expression whose value is dropped -/
def tDrop (te : TE) : TS := fun D σ H => te σ H fun _ H1 => D.nx σ H1
theorem ps_expr (he : PE X e te) (hs : swapsWith e none pos.line X.env = pure false := by rfl) : PS X (.Expr e pos) (tDrop te) := by
  intro pins s σ H D I h
  exact wpAny_Expr_any (thn (he pins s σ H _ I h) fun v s1 ⟨x, H1, I1, r1, q1⟩ => ⟨σ, H1, I1, q1⟩) I.quiet hs
def tRet (te : TE) : TS := fun D σ H => te σ H D.rt
theorem ps_ret (he : PE X e te) : PS X (.Return (some e) pos) (tRet te) := by
  intro pins s σ H D I h
  exact wpAny_Return_some (thn (he pins s σ H _ I h) fun v s1 ⟨x, H1, I1, r1, q1⟩ => ⟨x, σ, H1, I1, r1, q1⟩)
def tRetN : TS := fun D _ H => D.rt .non H
def tIfS (c : TT) (t u : TS) : TS := fun D σ H => c σ H fun b H1 => if b = true then t D σ H1 else u D σ H1
theorem ps_if {c : Expr} {a b : List Stmt} {tc : TT} (hc : PT X c tc) (ha : PSs X a t) (hb : PSs X b u) : PS X (.If c a b pos) (tIfS tc t u) := by
  intro pins s σ H D I h
  refine wpAny_If (thn (hc pins s σ H _ I h) fun d s1 ⟨H1, I1, q1⟩ => ?_)
  cases d with
  | true => exact ha pins s1 σ H1 D I1 q1
  | false => exact hb pins s1 σ H1 D I1 q1
/-- code that the proof never comes to -/
def tNever : TS := fun _ _ _ => False
theorem ps_never : PS X st tNever := fun _ _ _ _ _ _ h => h.elim
end

/-! ### targets -/
abbrev TG := V → St → Hp → (St → Hp → Prop) → Prop
abbrev TGs := List V → St → Hp → (St → Hp → Prop) → Prop
def PG (X : Cx) (target : Expr) (t : TG) : Prop :=
  ∀ (pins : List (Addr × Obj)) (s : Shared) (σ : St) (H : Hp) (v : V) (u : Value) (Q : St → Hp → Prop), Inv X pins σ H s → RelV v u → t v σ H Q →
    wpAny (model X.prog X.w) X.A (assign target X.env u) (fun _ s' => ∃ σ' H', Inv X pins σ' H' s' ∧ Q σ' H') X.xe s
/-- several targets, one after another -/
def PGs (X : Cx) (ts : List Expr) (t : TGs) : Prop :=
  ∀ (pins : List (Addr × Obj)) (s : Shared) (σ : St) (H : Hp) (vs : List V) (us : List Value) (Q : St → Hp → Prop), Inv X pins σ H s → Vals vs us → t vs σ H Q →
    wpAny (model X.prog X.w) X.A (assignInOrder ((assignEach ts X.env).map (·.2)) us) (fun _ s' => ∃ σ' H', Inv X pins σ' H' s' ∧ Q σ' H') X.xe s
/-- o[i] = v, by values -/
abbrev TSet := V → V → V → Hp → (Hp → Prop) → Prop
def PSet (X : Cx) (t : TSet) : Prop :=
  ∀ (pins : List (Addr × Obj)) (s : Shared) (σ : St) (H : Hp) (o i v : V) (ov iv u : Value) (Q : Hp → Prop), Inv X pins σ H s → RelV o ov → RelV i iv → RelV v u → t o i v H Q →
    wpAny (model X.prog X.w) X.A (setItem ov iv u) (fun _ s' => ∃ H', Inv X pins σ H' s' ∧ Q H') X.xe s
/-- a op= b, by values -/
abbrev TIp := V → V → Hp → VK → Prop
def PIp (X : Cx) (op : Operator) (t : TIp) : Prop :=
  ∀ (pins : List (Addr × Obj)) (s : Shared) (σ : St) (H : Hp) (x y : V) (v u : Value) (Q : VK), Inv X pins σ H s → RelV x v → RelV y u → t x y H Q →
    wpAny (model X.prog X.w) X.A (inplaceOp op v u) (EP X pins σ Q) X.xe s
section
variable {X : Cx} {pos : Pos}
def gName (i : Nat) : TG := fun v σ H Q => Q (σ.set i (some v)) H
theorem pg_name {i : Nat} {x : Str} (hN : X.N.Nodup) (hi : X.N[i]? = some x) (hx : Loc X.env.scope x) (hf : X.fn x = true ∨ X.env.scope.names.lookup x = some .local := by first | exact .inl rfl | exact .inr rfl | assumption) : PG X (.Name x pos) (gName i) := by
  intro pins s σ H v u Q I r h
  exact wpAny_assign_Name (store_ok I hN hi hx r (fun s' I' => ⟨_, H, I', h⟩) hf)
def gNil : TGs := fun vs σ H Q => vs = [] ∧ Q σ H
def gCons (t : TG) (u : TGs) : TGs := fun vs σ H Q => ∃ v r, vs = v :: r ∧ t v σ H fun σ' H' => u r σ' H' Q
theorem pgs_nil : PGs X [] gNil := by
  intro pins s σ H vs us Q I r h
  obtain ⟨e, h⟩ := h
  subst e
  cases r
  exact assignInOrder_nil ⟨σ, H, I, h⟩
theorem pgs_cons {e : Expr} {es : List Expr} {t : TG} {u : TGs} (h1 : PG X e t) (h2 : PGs X es u)
    (hs : (assignEach (e :: es) X.env).map (·.2) = assign e X.env :: (assignEach es X.env).map (·.2) := by rfl) : PGs X (e :: es) (gCons t u) := by
  intro pins s σ H vs us Q I r h
  obtain ⟨v, vr, e1, h⟩ := h
  subst e1
  cases r with
  | cons r rr =>
    rw [hs]
    refine assignInOrder_cons (thn (h1 pins s σ H _ _ _ I r h) fun _ s1 ⟨σ1, H1, I1, q1⟩ => ?_)
    exact h2 pins s1 σ1 H1 _ _ Q I1 rr q1
/-- (a, b, ..) = a tuple of that length -/
def gTup (K : PySem.W.Frag) (n : Nat) (t : TGs) : TG := fun v σ H Q => ∃ a xs, v = .ref a ∧ SqT K H a xs ∧ xs.length = n ∧ t xs σ H Q
theorem pg_tup {es : List Expr} {k : Nat} {t : TGs} {n : Nat} (hc : X.calm = true) (h : PGs X es t)
    (hn : (assignEach es X.env).length = n := by rfl) (hst : (assignEach es X.env).findIdx? (·.1) = none := by rfl) : PG X (.Tuple es k pos) (gTup X.K n t) := by
  intro pins s σ H v u Q I r hw
  obtain ⟨a, xs, e1, hq, hl, hw⟩ := hw
  subst e1
  cases r
  obtain ⟨its, rv, ht, hz⟩ := I.tuple hq
  refine assign_Tuple_tuple (I.ok.hd hc) ht (by simp [hn, ← hl, rv.length]) hst fun h' hx => ?_
  have I1 : Inv X pins σ H { s with heap := h' } := I.kept (t' := s.toks) fun b o e => hx b o (Nat.ne_of_lt (Heap.lt_size e)) e
  exact h pins _ σ H xs _ Q I1 (by simpa using rv) hw
/-- o[i] = .. -/
def gSub (to ti : TE) (t : TSet) : TG := fun v σ H Q => to σ H fun o H1 => ti σ H1 fun i H2 => t o i v H2 fun H3 => Q σ H3
theorem pg_sub {o i : Expr} {to ti : TE} {t : TSet} (ho : PE X o to) (hi : PE X i ti) (hs : PSet X t)
    (ha : ∀ v, assign (.Subscript o i pos) X.env v = (do
      let ov ← holding [v] (eval o X.env)
      let iv ← holding [v, ov] (eval i X.env)
      standAt pos
      holding [v, ov, iv] (setItem ov iv v)
      release [v, ov, iv] []) := by intro _; rfl) : PG X (.Subscript o i pos) (gSub to ti t) := by
  intro pins s σ H v u Q I r h
  rw [ha]
  refine wpAny_bind (wpAny_holding (thn (ho pins s σ H _ I h) fun ov s1 ⟨x, H1, I1, r1, q1⟩ => ?_))
  refine wpAny_bind (wpAny_holding (thn (hi pins s1 σ H1 _ I1 q1) fun iv s2 ⟨y, H2, I2, r2, q2⟩ => ?_))
  refine wpAny_bind (wpAny_standAt (wpAny_bind (wpAny_holding (thn (hs pins s2 σ H2 x y v ov iv u _ I2 r1 r2 r q2) fun _ s3 ⟨H3, I3, q3⟩ => ?_))))
  exact wpAny_release ⟨σ, H3, I3, q3⟩
/-- target = value -/
def tAsg (te : TE) (g : TG) : TS := fun D σ H => te σ H fun x H1 => g x σ H1 D.nx
theorem ps_asg {tg e : Expr} {te : TE} {g : TG} (he : PE X e te) (hg : PG X tg g) (hs : swapsWithSole [tg] e pos.line X.env = pure false := by rfl) (hw : swappedStores [tg] e X.env = pure none := by rfl)
    (h1 : (assignEach [tg] X.env).map (·.2) = [assign tg X.env] := by rfl) : PS X (.Assign [tg] e pos) (tAsg te g) := by
  intro pins s σ H D I h
  refine wpAny_Assign_stores (thn (he pins s σ H _ I h) fun v s1 ⟨x, H1, I1, r1, q1⟩ => ?_) hs hw
  rw [h1]
  exact thn (hg pins s1 σ H1 x v _ I1 r1 q1) fun _ s2 q => q
/-- name = value -/
theorem ps_set {i : Nat} {x : Str} {e : Expr} {te : TE} {pos' : Pos} (hN : X.N.Nodup) (hi : X.N[i]? = some x) (hx : Loc X.env.scope x) (he : PE X e te) (hs : swapsWith e (some (.Name x pos')) pos.line X.env = pure false := by rfl) (hf : X.fn x = true ∨ X.env.scope.names.lookup x = some .local := by first | exact .inl rfl | exact .inr rfl | assumption) :
    PS X (.Assign [.Name x pos'] e pos) (tAsg te (gName i)) := by
  intro pins s σ H D I h
  refine wpAny_Assign_Name (thn (he pins s σ H _ I h) fun v s1 ⟨y, H1, I1, r1, q1⟩ => ?_) hs
  exact store_ok I1 hN hi hx r1 (fun s2 I2 => ⟨_, H1, I2, q1⟩) hf
/-- a, b = x, y with plain local names: stored from the right; the pair itself is not tracked (the opening rows as in PyProof/Rows/TupAssign.lean:23) -/
def tPar (i j : Nat) (ta : TA) : TS := fun D σ H => ta σ H fun vs H1 => ∃ v w, vs = [v, w] ∧ D.nx ((σ.set i (some v)).set j (some w)) H1
/-- name op= e -/
def tAug (i : Nat) (te : TE) (ti : TIp) : TS := fun D σ H => ∃ x, σ[i]? = some (some x) ∧ te σ H fun y H1 => ti x y H1 fun z H2 => D.nx (σ.set i (some z)) H2
/-- o[i] op= e -/
def tAugS (to ti te : TE) (tget : V → V → Hp → VK → Prop) (tip : TIp) (tset : TSet) : TS := fun D σ H => to σ H fun o H1 => ti σ H1 fun i H2 => tget o i H2 fun x H3 => te σ H3 fun y H4 => tip x y H4 fun z H5 => tset o i z H5 fun H6 => D.nx σ H6
/-- o[i], by values -/
def PGet (X : Cx) (t : V → V → Hp → VK → Prop) : Prop :=
  ∀ (pins : List (Addr × Obj)) (s : Shared) (σ : St) (H : Hp) (o i : V) (ov iv : Value) (Q : VK), Inv X pins σ H s → RelV o ov → RelV i iv → t o i H Q →
    wpAny (model X.prog X.w) X.A (getItem ov iv) (EP X pins σ Q) X.xe s
/-- ints -/
def ipI (f : Int → Int → Int) : TIp := fun x y H Q => ∃ i j, x = .int i ∧ y = .int j ∧ Q (.int (f i j)) H
end

/-! ### while -/
section
variable {X : Cx} {pos : Pos}
/-- the invariant W with its measure -/
def tWhile (c : TT) (tb : TS) : TS := fun D σ H => ∃ W : Nat → St → Hp → Prop, (∃ m, W m σ H) ∧ ∀ m σ H, W m σ H →
  c σ H fun b H1 => if b = true then ∃ N : St → Hp → Prop, (∀ σ' H', N σ' H' → ∃ m', m' < m ∧ W m' σ' H') ∧ tb { D with nx := N, ct := N, bk := D.nx } σ H1 else D.nx σ H1
theorem ps_while {c : Expr} {body : List Stmt} {tc : TT} {tb : TS} (hp : PassesOwn (model X.prog X.w) X.A X.env X.xe) (hc : PT X c tc) (hb : PSs X body tb) : PS X (.While c body [] pos) (tWhile tc tb) := by
  intro pins s σ H D I h
  obtain ⟨W, ⟨m0, w0⟩, turn⟩ := h
  refine wpAny_While (codeAny_whileLoop (fun n s' => ∃ σ' H', Inv X pins σ' H' s' ∧ W n σ' H') ?_ m0 ⟨σ, H, I, w0⟩)
  rintro n s1 ⟨σ1, H1, I1, w1⟩
  refine wpAny_passesOwn hp (thn (hc pins s1 σ1 H1 _ I1 (turn n σ1 H1 w1)) fun b s2 ⟨H2, I2, q2⟩ => ?_)
  cases b with
  | true =>
    obtain ⟨N, hN, q2⟩ := q2
    rw [if_pos rfl]
    refine wpAny_passesOwn hp (thn (hb pins s2 σ1 H2 _ I2 q2) fun f s3 q3 => ?_)
    cases f with
    | next =>
      obtain ⟨σ3, H3, I3, n3⟩ := q3
      obtain ⟨m', hm, w3⟩ := hN σ3 H3 n3
      exact ⟨m', hm, σ3, H3, I3, w3⟩
    | cont =>
      obtain ⟨σ3, H3, I3, n3⟩ := q3
      obtain ⟨m', hm, w3⟩ := hN σ3 H3 n3
      exact ⟨m', hm, σ3, H3, I3, w3⟩
    | brk => exact q3
    | ret v => exact q3
  | false =>
    rw [if_neg Bool.false_ne_true]
    exact wpAny_execs_nil ⟨σ1, H2, I2, q2⟩
end

/-! ### what a loop or a comprehension walks -/
/-- at turn i: it yields x (the heap may grow), or it stops -/
structure It where
  go : Nat → Hp → Prop
  yld : Nat → Hp → V → Hp → Prop
  stop : Nat → Hp → Prop
/-- the iterator's own objects may turn: they are not the frame's, not pinned, younger than the entry (or a comprehension's own) -/
def FpOk (X : Cx) (pins : List (Addr × Obj)) (H : Hp) (b : Addr) : Prop :=
  H b = none ∧ b ≠ X.env.locals ∧ b ∉ X.fs ∧ (b ∈ X.ex ∨ X.s₀.heap.objs.size ≤ b) ∧ (∀ x c, X.env.cells.lookup x = some c → c ≠ b) ∧ ∀ p ∈ X.pn ++ pins, p.1 ≠ b
theorem Inv.fpOk {X : Cx} {pins : List (Addr × Obj)} {σ : St} {H H' : Hp} {s : Shared} {b : Addr} (I : Inv X pins σ H s) (hb : s.heap.objs.size ≤ b) (hn : H' b = none) : FpOk X pins H' b := by
  refine ⟨hn, Nat.ne_of_gt (Nat.lt_of_lt_of_le I.lt hb), I.nofs hb, .inr (Nat.le_trans I.sz hb), fun x c e z => ?_, fun p hp z => ?_⟩
  · obtain ⟨v, q⟩ := I.cell x c e
    exact absurd (Nat.lt_of_lt_of_le q.lt (by rw [z]; exact hb)) (Nat.lt_irrefl _)
  · exact absurd (Nat.lt_of_lt_of_le (Heap.lt_size (I.pin p hp).1) (by rw [z]; exact hb)) (Nat.lt_irrefl _)
structure Turn (P : Program) (w : World) (K : PySem.W.Frag) (tg : Expr) (J : It) (fp : List Addr) (it : Addr) (tn : Nat → Heap → Prop) : Prop where
  mem : it ∈ fp
  obj : ∀ i h, tn i h → ∀ b ∈ fp, ∃ o, h.get? b = some o ∧ ∀ v, o.data ≠ .cell v
  keep : ∀ i h h', tn i h → (∀ b ∈ fp, ∀ o, h.get? b = some o → h'.get? b = some o) → tn i h'
  item : ∀ (X : Cx), X.prog = P → X.w = w → X.K = K → X.calm = true → ∀ (i : Nat) (pins : List (Addr × Obj)) (s : Shared) (σ : St) (H : Hp) (E : Value → Shared → Prop), Inv X pins σ H s → (∀ b ∈ fp, FpOk X pins H b) → tn i s.heap → J.go i H →
    wpAny (model P w) X.A (pyNext (.ref it)) (fun r s1 => ∃ u, r = some u ∧
      wpAny (model P w) X.A (letOwnedTupleGo tg (.ref it) u) (fun _ s2 => ∃ x H', Inv X pins σ H' s2 ∧ RelV x u ∧ J.yld i H x H' ∧ tn (i + 1) s2.heap ∧ ∀ b ∈ fp, H' b = none) E s1) E s
  done : ∀ (X : Cx), X.prog = P → X.w = w → X.K = K → X.calm = true → ∀ (i : Nat) (pins : List (Addr × Obj)) (s : Shared) (σ : St) (H : Hp) (E : Value → Shared → Prop), Inv X pins σ H s → (∀ b ∈ fp, FpOk X pins H b) → tn i s.heap → J.stop i H →
    wpAny (model P w) X.A (pyNext (.ref it)) (fun r s1 => r = none ∧ Inv X pins σ H s1) E s
  self : ∀ (A : Around) (i : Nat) (s : Shared) (Q : Value → Shared → Prop) (E : Value → Shared → Prop), tn i s.heap → Q (.ref it) s → wpAny (model P w) A (pyIter (.ref it)) Q E s
abbrev TI := St → Hp → (It → Hp → Prop) → Prop
/-- an iterator has come -/
def PIE (X : Cx) (pins : List (Addr × Obj)) (σ : St) (tg : Expr) (R : It → Hp → Prop) (itv : Value) (s2 : Shared) : Prop :=
  ∃ (it : Addr) (fp : List Addr) (tn : Nat → Heap → Prop) (J : It) (H' : Hp), itv = .ref it ∧ Inv X pins σ H' s2 ∧ Turn X.prog X.w X.K tg J fp it tn ∧ tn 0 s2.heap ∧ (∀ b ∈ fp, FpOk X pins H' b) ∧ R J H'
def PI (X : Cx) (tg iter : Expr) (wi : TI) : Prop :=
  ∀ (pins : List (Addr × Obj)) (s : Shared) (σ : St) (H : Hp) (R : It → Hp → Prop), Inv X pins σ H s → wi σ H R →
    wpAny (model X.prog X.w) X.A (eval iter X.env) (fun v s1 => wpAny (model X.prog X.w) X.A (pyIter v) (PIE X pins σ tg R) X.xe s1) X.xe s

/-- the step ahead of the store is nothing for an iterator that keeps no tuple -/
theorem go_of {M : Model} {A : Around} {E : Value → Shared → Prop} {s : Shared} {tg : Expr} {it : Addr} {u : Value} {o : Obj} {n : String} {vs : Array Value} {Q : Unit → Shared → Prop} (ho : s.heap.get? it = some o) (hc : o.cls = .type n) (hd : o.data = .fields vs)
    (hn : ["enumerate", "zip", "dict_itemiterator", "dict_reverseitemiterator", "odict_iterator", "itertools.zip_longest", "itertools.pairwise"].contains n = false) (hQ : Q () s) : wpAny M A (letOwnedTupleGo tg (.ref it) u) Q E s := by
  unfold letOwnedTupleGo
  cases tg <;> first
    | exact wpAny_pure hQ
    | (cases u <;> first
        | exact wpAny_pure hQ
        | (refine wpAny_bind (wpAny_load ho ?_)
           rw [hc, hd]
           show wpAny M A (if (["enumerate", "zip", "dict_itemiterator", "dict_reverseitemiterator", "odict_iterator", "itertools.zip_longest", "itertools.pairwise"].contains n && vs[0]? == some (rawInt _)) = true then _ else _) Q E s
           rw [if_neg (by intro h; rw [hn, Bool.false_and] at h; cases h)]
           exact wpAny_pure hQ))

/-- the list at a, as it stands at each turn (a loop may append to it) -/
def Itl (K : PySem.W.Frag) (a : Addr) : It :=
  ⟨fun i H => ∃ xs x, SqL K H a xs ∧ xs[i]? = some x, fun i H x H' => H' = H ∧ ∀ xs, SqL K H a xs → xs[i]? = some x, fun i H => ∃ xs, SqL K H a xs ∧ xs.length ≤ i⟩
def Itt (K : PySem.W.Frag) (a : Addr) : It :=
  ⟨fun i H => ∃ xs x, SqT K H a xs ∧ xs[i]? = some x, fun i H x H' => H' = H ∧ ∀ xs, SqT K H a xs → xs[i]? = some x, fun i H => ∃ xs, SqT K H a xs ∧ xs.length ≤ i⟩
/-- lo, lo + 1, .. (n of them) -/
def Itr (lo : Int) (n : Nat) : It := ⟨fun i _ => i < n, fun i H x H' => H' = H ∧ x = .int (lo + i), fun i _ => n ≤ i⟩
theorem turn_list {P : Program} {w : World} {K : PySem.W.Frag} {tg : Expr} (a it : Addr) : Turn P w K tg (Itl K a) [it] it (fun i h => h.IsListIter it a i) where
  mem := by simp
  obj := fun i h st b hb => by
    have e : b = it := by simpa using hb
    subst e
    obtain ⟨o, e, c, d⟩ := st
    exact ⟨o, e, fun v z => by rw [d] at z; cases z⟩
  keep := fun i h h' st k => st.at fun o e => k it (by simp) o e
  item := by
    intro X hP hw hK hc i pins s σ H E I hf st hg
    subst hP hw hK
    obtain ⟨xs, x, hq, hx⟩ := hg
    obtain ⟨its, rv, p, hz⟩ := I.list hq
    obtain ⟨u, hu, ru⟩ := rv.get hx
    obtain ⟨f0, f1, f2, f3, f4, f5⟩ := hf it (by simp)
    refine wpAny_pyNext_list_item st p.isList (x := u) (by simpa using hu) fun h' st' sb => ?_
    have I1 : Inv X pins σ H { s with heap := h' } := I.turned (t' := s.toks) (fun b o hb e => (sb.2 b hb).trans e) f0 f1 f3 f4 f5
    obtain ⟨o, e, c, d⟩ := id st'
    exact ⟨u, rfl, go_of (s := { s with heap := h' }) e c d (by decide) ⟨x, H, I1, ru, ⟨rfl, fun ys hy => by rw [I.list_inj hy hq]; exact hx⟩, st', fun b hb => (hf b hb).1⟩⟩
  done := by
    intro X hP hw hK hc i pins s σ H E I hf st hg
    subst hP hw hK
    obtain ⟨xs, hq, hx⟩ := hg
    obtain ⟨its, rv, p, hz⟩ := I.list hq
    obtain ⟨f0, f1, f2, f3, f4, f5⟩ := hf it (by simp)
    have hl := rv.length
    exact wpAny_pyNext_list_end (I.ok.hd hc) st p.isList (by simp; omega) fun h' eb => ⟨rfl, I.turned (t' := s.toks) (fun b o hb e => eb b o hb e) f0 f1 f3 f4 f5⟩
  self := fun _ _ _ _ _ st h => wpAny_pyIter_listiter st h
theorem turn_tuple {P : Program} {w : World} {K : PySem.W.Frag} {tg : Expr} (a it : Addr) : Turn P w K tg (Itt K a) [it] it (fun i h => h.IsTupleIter it a i) where
  mem := by simp
  obj := fun i h st b hb => by
    have e : b = it := by simpa using hb
    subst e
    obtain ⟨o, e, c, d⟩ := st
    exact ⟨o, e, fun v z => by rw [d] at z; cases z⟩
  keep := fun i h h' st k => st.at fun o e => k it (by simp) o e
  item := by
    intro X hP hw hK hc i pins s σ H E I hf st hg
    subst hP hw hK
    obtain ⟨xs, x, hq, hx⟩ := hg
    obtain ⟨its, rv, p, hz⟩ := I.tuple hq
    obtain ⟨u, hu, ru⟩ := rv.get hx
    obtain ⟨f0, f1, f2, f3, f4, f5⟩ := hf it (by simp)
    refine wpAny_pyNext_tuple_item st (show s.heap.IsTuple a its.toArray from p) (x := u) (by simpa using hu) fun h' st' sb => ?_
    have I1 : Inv X pins σ H { s with heap := h' } := I.turned (t' := s.toks) (fun b o hb e => (sb.2 b hb).trans e) f0 f1 f3 f4 f5
    obtain ⟨o, e, c, d⟩ := id st'
    exact ⟨u, rfl, go_of (s := { s with heap := h' }) e c d (by decide) ⟨x, H, I1, ru, ⟨rfl, fun ys hy => by rw [I.tuple_inj hy hq]; exact hx⟩, st', fun b hb => (hf b hb).1⟩⟩
  done := by
    intro X hP hw hK hc i pins s σ H E I hf st hg
    subst hP hw hK
    obtain ⟨xs, hq, hx⟩ := hg
    obtain ⟨its, rv, p, hz⟩ := I.tuple hq
    obtain ⟨f0, f1, f2, f3, f4, f5⟩ := hf it (by simp)
    have hl := rv.length
    exact wpAny_pyNext_tuple_end (I.ok.hd hc) st (show s.heap.IsTuple a its.toArray from p) (by simp; omega) fun h' eb => ⟨rfl, I.turned (t' := s.toks) (fun b o hb e => eb b o hb e) f0 f1 f3 f4 f5⟩
  self := fun _ _ _ _ _ st h => wpAny_pyIter_tupleiter st h
theorem turn_range {P : Program} {w : World} {K : PySem.W.Frag} {tg : Expr} (it : Addr) (lo : Int) (n : Nat) : Turn P w K tg (Itr lo n) [it] it (fun i h => IsRangeIter h it (lo + (i : Nat) * 1) ((n : Int) - (i : Nat)) 1) where
  mem := by simp
  obj := fun i h st b hb => by
    have e : b = it := by simpa using hb
    subst e
    exact ⟨_, st, fun v z => by
      have z' : Data.fields _ = Data.cell v := z
      cases z'⟩
  keep := fun i h h' st k => k it (by simp) _ st
  item := by
    intro X hP hw hK hc i pins s σ H E I hf st hg
    subst hP hw hK
    obtain ⟨f0, f1, f2, f3, f4, f5⟩ := hf it (by simp)
    have W := Walks.range (prog := X.prog) (w := X.w) (I.ok.hd hc) it lo 1 n
    refine W.item i s _ _ hg st fun v h' tk hv st' kk => ?_
    obtain ⟨t, rfl⟩ := hv
    have I1 : Inv X pins σ H { s with heap := h', toks := tk } := I.turned (fun b o hb e => kk b o (by simpa using hb) e) f0 f1 f3 f4 f5
    refine ⟨_, rfl, go_of (s := { s with heap := h', toks := tk }) (n := "range_iterator") st' rfl rfl (by decide) ⟨.int (lo + i), H, I1, ⟨t, ?_⟩, ⟨rfl, rfl⟩, st', fun b hb => (hf b hb).1⟩⟩
    rw [Int.mul_one]
  done := by
    intro X hP hw hK hc i pins s σ H E I hf st hg
    subst hP hw hK
    obtain ⟨f0, f1, f2, f3, f4, f5⟩ := hf it (by simp)
    exact wpAny_pyNext_range_end (I.ok.hd hc) st (by have : n ≤ i := hg; omega) fun h' eb => ⟨rfl, I.turned (t' := s.toks) (fun b o hb e => eb b o hb e) f0 f1 f3 f4 f5⟩
  self := fun _ _ _ _ _ st h => wpAny_pyIter_rangeiter st h
end L2

namespace L2
open PySem PySem.Spec PyProof.Rows
section
variable {X : Cx} {tg : Expr}
def iList (K : PySem.W.Frag) (tl : TE) : TI := fun σ H R => tl σ H fun x H1 => ∃ a, x = .ref a ∧ (∃ xs, SqL K H1 a xs) ∧ R (Itl K a) H1
def iTup (K : PySem.W.Frag) (tl : TE) : TI := fun σ H R => tl σ H fun x H1 => ∃ a, x = .ref a ∧ (∃ xs, SqT K H1 a xs) ∧ R (Itt K a) H1
theorem pi_list {l : Expr} {tl : TE} (hl : PE X l tl) : PI X tg l (iList X.K tl) := by
  intro pins s σ H R I h
  refine thn (hl pins s σ H _ I h) fun v s1 ⟨x, H1, I1, r1, q1⟩ => ?_
  obtain ⟨a, e, ⟨xs, hq⟩, q⟩ := q1
  subst e
  cases r1
  obtain ⟨its, rv, p, hz⟩ := I1.list hq
  refine wpAny_pyIter_list p.isList ?_
  refine ⟨s1.heap.objs.size, [s1.heap.objs.size], _, _, H1, rfl, I1.kept (t' := s1.toks) fun b o e => Heap.get?_push_of_some _ e, turn_list a _, ⟨_, Heap.get?_push_size _ rfl, rfl, rfl⟩, fun b hb => ?_, q⟩
  have e : b = s1.heap.objs.size := by simpa using hb
  subst e
  exact I1.fpOk (Nat.le_refl _) (I1.hok.fresh (Nat.le_refl _))
theorem pi_tup {l : Expr} {tl : TE} (hl : PE X l tl) : PI X tg l (iTup X.K tl) := by
  intro pins s σ H R I h
  refine thn (hl pins s σ H _ I h) fun v s1 ⟨x, H1, I1, r1, q1⟩ => ?_
  obtain ⟨a, e, ⟨xs, hq⟩, q⟩ := q1
  subst e
  cases r1
  obtain ⟨its, rv, p, hz⟩ := I1.tuple hq
  refine wpAny_pyIter_tuple (show s1.heap.IsTuple a its.toArray from p) ?_
  refine ⟨s1.heap.objs.size, [s1.heap.objs.size], _, _, H1, rfl, I1.kept (t' := s1.toks) fun b o e => Heap.get?_push_of_some _ e, turn_tuple a _, ⟨_, Heap.get?_push_size _ rfl, rfl, rfl⟩, fun b hb => ?_, q⟩
  have e : b = s1.heap.objs.size := by simpa using hb
  subst e
  exact I1.fpOk (Nat.le_refl _) (I1.hok.fresh (Nat.le_refl _))
/-- a range object just made, walked -/
theorem range_it {pins : List (Addr × Obj)} {σ : St} {H : Hp} {s : Shared} {R : It → Hp → Prop} {E : Value → Shared → Prop} {lo hi : Int} {t u v : Tok} {tk : Nat} (I : Inv X pins σ H s) (h1 : -(2 ^ 62) ≤ lo) (h2 : lo < 2 ^ 62) (h3 : -(2 ^ 62) ≤ hi) (h4 : hi < 2 ^ 62)
    (q : R (Itr lo (hi - lo).toNat) H) : wpAny (model X.prog X.w) X.A (pyIter (.ref s.heap.objs.size)) (PIE X pins σ tg R) E { s with heap := s.heap.push { cls := .type "range", data := .fields #[.int lo t, .int hi u, .int 1 v] }, toks := tk } := by
  refine wpAny_pyIter_range (IsRange.new ..) (small_one h1 h2 h3 h4) ?_
  have I1 : Inv X pins σ H { s with heap := s.heap.push { cls := .type "range", data := .fields #[.int lo t, .int hi u, .int 1 v] }, toks := tk } := I.kept fun b o e => Heap.get?_push_of_some _ e
  refine ⟨(s.heap.push { cls := .type "range", data := .fields #[.int lo t, .int hi u, .int 1 v] }).objs.size, [(s.heap.push { cls := .type "range", data := .fields #[.int lo t, .int hi u, .int 1 v] }).objs.size], _, _, H, rfl,
    I1.kept (t' := tk) fun b o e => Heap.get?_push_of_some _ e, turn_range _ lo (hi - lo).toNat, ?_, fun b hb => ?_, q⟩
  · have e1 : lo + ((0 : Nat) : Int) * 1 = lo := by simp
    have e2 : (((hi - lo).toNat : Nat) : Int) - ((0 : Nat) : Int) = Builtin.Range.rangeSize lo hi 1 := by rw [rangeSize_one]; split <;> omega
    show IsRangeIter _ _ (lo + ((0 : Nat) : Int) * 1) ((((hi - lo).toNat : Nat) : Int) - ((0 : Nat) : Int)) 1
    rw [e1, e2]
    exact Heap.get?_push_size _ rfl
  · have e : b = (s.heap.push { cls := .type "range", data := .fields #[.int lo t, .int hi u, .int 1 v] }).objs.size := by simpa using hb
    subst e
    exact I1.fpOk (Nat.le_refl _) (I1.hok.fresh (Nat.le_refl _))
def iRng1 (ta : TA) : TI := fun σ H R => ta σ H fun vs H1 => ∃ j : Int, vs = [.int j] ∧ -(2 ^ 62) ≤ j ∧ j < 2 ^ 62 ∧ R (Itr 0 j.toNat) H1
def iRng2 (ta : TA) : TI := fun σ H R => ta σ H fun vs H1 => ∃ i j : Int, vs = [.int i, .int j] ∧ (-(2 ^ 62) ≤ i ∧ i < 2 ^ 62 ∧ -(2 ^ 62) ≤ j ∧ j < 2 ^ 62) ∧ R (Itr i (j - i).toNat) H1
theorem pi_range1 {a : Expr} {ta : TA} {p pos : Pos} (hg : Gl X "range") (hm : X.mg "range" = none) (ha : PA X [a] ta) (hs : starEach [a] X.env = [(false, eval a X.env)] := by rfl) : PI X tg (.Call (.Name "range" p) [a] [] pos) (iRng1 ta) := by
  intro pins s σ H R I h
  refine Call_ (ld_blt I hg hm boot_range (PyProof.Rows.callWith_type1 (thn (ha pos pins s σ H _ I h) fun us s1 ⟨vs, H1, I1, r1, q1⟩ => ?_) hs rfl))
  obtain ⟨j, e, q1, q2, q⟩ := q1
  subst e
  cases r1 with
  | cons r rr =>
    cases rr
    obtain ⟨t, rfl⟩ := r
    exact call_range_1 (range_it I1 (by omega) (by omega) q1 q2 (by simpa using q))
/-! ### for -/
/-- W: the invariant by the turn and a measure; N: what the body is to reach -/
def tFor (wi : TI) (g : TG) (tb : TS) : TS := fun D σ H => wi σ H fun J H1 => ∃ W : Nat → Nat → St → Hp → Prop, (∃ m, W 0 m σ H1) ∧ ∀ i m σ H, W i m σ H →
  (J.stop i H ∧ D.nx σ H) ∨ (J.go i H ∧ ∃ N : St → Hp → Prop, (∀ σ' H', N σ' H' → ∃ m', m' < m ∧ W (i + 1) m' σ' H') ∧ ∀ x H', J.yld i H x H' → g x σ H' fun σ2 H2 => tb { D with nx := N, ct := N, bk := D.nx } σ2 H2)
/-- the records at fp as they stand -/
def pinsAt (fp : List Addr) (h : Heap) : List (Addr × Obj) := fp.filterMap fun b => (h.get? b).map fun o => (b, o)
theorem mem_pinsAt {fp : List Addr} {h : Heap} {b : Addr} {o : Obj} (hb : b ∈ fp) (e : h.get? b = some o) : (b, o) ∈ pinsAt fp h := List.mem_filterMap.mpr ⟨b, hb, by rw [e]; rfl⟩
theorem of_pinsAt {fp : List Addr} {h : Heap} {p : Addr × Obj} (hp : p ∈ pinsAt fp h) : p.1 ∈ fp ∧ h.get? p.1 = some p.2 := by
  obtain ⟨b, hb, e⟩ := List.mem_filterMap.mp hp
  cases q : h.get? b with
  | none => rw [q] at e; cases e
  | some o =>
    rw [q] at e
    have e' : (b, o) = p := Option.some.inj e
    subst e'
    exact ⟨hb, q⟩
theorem Inv.pinned {pins : List (Addr × Obj)} {σ : St} {H : Hp} {s : Shared} {fp : List Addr} (I : Inv X pins σ H s) (hf : ∀ b ∈ fp, FpOk X pins H b) (ho : ∀ b ∈ fp, ∃ o, s.heap.get? b = some o ∧ ∀ v, o.data ≠ .cell v) : Inv X (pins ++ pinsAt fp s.heap) σ H s :=
  I.pins_of fun p hp => (List.mem_append.mp hp).elim (fun z => I.pin p (List.mem_append_right _ z)) fun z => by
    obtain ⟨hb, e⟩ := of_pinsAt z
    obtain ⟨f0, f1, f2, _⟩ := hf p.1 hb
    obtain ⟨o, e', d⟩ := ho p.1 hb
    rw [e] at e'; cases e'
    exact ⟨e, f0, f1, f2, d⟩
theorem Inv.unpinned {pins pl : List (Addr × Obj)} {σ : St} {H : Hp} {s : Shared} (I : Inv X (pins ++ pl) σ H s) : Inv X pins σ H s := I.pins_of fun p hp => I.pin p (List.mem_append_right _ (List.mem_append_left _ hp))
theorem ps_for {iter : Expr} {body : List Stmt} {wi : TI} {g : TG} {tb : TS} {pos : Pos} (hp : PassesOwn (model X.prog X.w) X.A X.env X.xe) (hc : X.calm = true) (hi : PI X tg iter wi) (hg : PG X tg g) (hb : PSs X body tb)
    (hs : ∀ x, foldedSetIterable iter X.env x = pure x := by intro _; rfl) : PS X (.For tg iter body [] pos) (tFor wi g tb) := by
  intro pins s σ H D I h
  refine wpAny_For (thn (hi pins s σ H _ I h) fun v s1 h1 => thn h1 fun itv s2 h2 => ?_) hs
  obtain ⟨it, fp, tn, J, H2, e, I2, T, st2, f2, W, ⟨m0, w0⟩, turn⟩ := h2
  subst e
  -- what stays true of the iterator's objects through the loop
  have stat : ∀ {H' : Hp}, (∀ b ∈ fp, H' b = none) → ∀ b ∈ fp, FpOk X pins H' b := fun hn b hb => ⟨hn b hb, (f2 b hb).2⟩
  refine codeAny_forLoop_any (fun n s' => ∃ i σ' H', Inv X pins σ' H' s' ∧ tn i s'.heap ∧ (∀ b ∈ fp, H' b = none) ∧ W i n σ' H') ?_ m0 ⟨0, σ, H2, I2, st2, fun b hb => (f2 b hb).1, w0⟩
  rintro n s3 ⟨i, σ3, H3, I3, st3, fr3, w3⟩
  rcases turn i n σ3 H3 w3 with ⟨stop, qn⟩ | ⟨go, N, hN, step⟩
  · refine wpAny_passesOwn hp (thn (T.done X rfl rfl rfl hc i pins s3 σ3 H3 X.xe I3 (stat fr3) st3 stop) fun r s4 ⟨hr, I4⟩ => ?_)
    subst hr
    exact wpAny_execs_nil ⟨σ3, H3, I4, qn⟩
  · refine wpAny_passesOwn hp (thn (T.item X rfl rfl rfl hc i pins s3 σ3 H3 X.xe I3 (stat fr3) st3 go) fun r s4 ⟨u, hr, h4⟩ => ?_)
    subst hr
    refine wpAny_passesOwn hp (thn h4 fun _ s5 ⟨x, H5, I5, r5, y5, st5, fr5⟩ => ?_)
    have I5' := I5.pinned (stat fr5) (T.obj _ _ st5)
    refine wpAny_passesOwn hp (thn (hg _ s5 σ3 H5 x u _ I5' r5 (step x H5 y5)) fun _ s6 ⟨σ6, H6, I6, q6⟩ => ?_)
    refine wpAny_passesOwn hp (thn (hb _ s6 σ6 H6 _ I6 q6) fun f s7 q7 => ?_)
    have again : ∀ {σ7 : St} {H7 : Hp}, Inv X (pins ++ pinsAt fp s5.heap) σ7 H7 s7 → N σ7 H7 → ∃ m, m < n ∧ ∃ i σ' H', Inv X pins σ' H' s7 ∧ tn i s7.heap ∧ (∀ b ∈ fp, H' b = none) ∧ W i m σ' H' := fun {σ7 H7} I7 n7 => by
      obtain ⟨m', hm, w7⟩ := hN σ7 H7 n7
      refine ⟨m', hm, i + 1, σ7, H7, I7.unpinned, T.keep _ _ _ st5 fun b hb o e => (I7.pin (b, o) (List.mem_append_right _ (List.mem_append_right _ (mem_pinsAt hb e)))).1, fun b hb => ?_, w7⟩
      obtain ⟨o, e, d⟩ := T.obj _ _ st5 b hb
      exact (I7.pin (b, o) (List.mem_append_right _ (List.mem_append_right _ (mem_pinsAt hb e)))).2.1
    cases f with
    | next => obtain ⟨σ7, H7, I7, n7⟩ := q7; exact again I7 n7
    | cont => obtain ⟨σ7, H7, I7, n7⟩ := q7; exact again I7 n7
    | brk => obtain ⟨σ7, H7, I7, q7⟩ := q7; exact ⟨σ7, H7, I7.unpinned, q7⟩
    | ret v => obtain ⟨x7, σ7, H7, I7, r7, q7⟩ := q7; exact ⟨x7, σ7, H7, I7.unpinned, r7, q7⟩
end

/-! ### the forms one uses -/
/-- over a list that the body leaves as it is -/
theorem for_list {K : PySem.W.Frag} {a : Addr} {xs : List V} {g : TG} {tb : TS} {D : Ends} {σ : St} {H : Hp} (Pv : Nat → St → Hp → Prop) (h0 : Pv 0 σ H) (hl : ∀ i σ H, i ≤ xs.length → Pv i σ H → SqL K H a xs)
    (hs : ∀ i x σ H, xs[i]? = some x → Pv i σ H → g x σ H fun σ2 H2 => tb { D with nx := Pv (i + 1), ct := Pv (i + 1), bk := D.nx } σ2 H2) (hd : ∀ σ H, Pv xs.length σ H → D.nx σ H) :
    ∃ W : Nat → Nat → St → Hp → Prop, (∃ m, W 0 m σ H) ∧ ∀ i m σ H, W i m σ H →
      ((Itl K a).stop i H ∧ D.nx σ H) ∨ ((Itl K a).go i H ∧ ∃ N : St → Hp → Prop, (∀ σ' H', N σ' H' → ∃ m', m' < m ∧ W (i + 1) m' σ' H') ∧ ∀ x H', (Itl K a).yld i H x H' → g x σ H' fun σ2 H2 => tb { D with nx := N, ct := N, bk := D.nx } σ2 H2) := by
  refine ⟨fun i m σ H => m = xs.length - i ∧ i ≤ xs.length ∧ Pv i σ H, ⟨xs.length, by simp, Nat.zero_le _, h0⟩, ?_⟩
  rintro i m σ H ⟨rfl, hi, p⟩
  have q := hl i σ H hi p
  by_cases hlt : i < xs.length
  · refine .inr ⟨⟨xs, xs[i], q, by simp [hlt]⟩, Pv (i + 1), fun σ' H' p' => ⟨xs.length - (i + 1), by omega, rfl, hlt, p'⟩, fun x H' y => ?_⟩
    obtain ⟨e, y⟩ := y
    subst e
    exact hs i x σ _ (y xs q) p
  · have e : i = xs.length := by omega
    subst e
    exact .inl ⟨⟨xs, q, Nat.le_refl _⟩, hd σ H p⟩
theorem for_tup {K : PySem.W.Frag} {a : Addr} {xs : List V} {g : TG} {tb : TS} {D : Ends} {σ : St} {H : Hp} (Pv : Nat → St → Hp → Prop) (h0 : Pv 0 σ H) (hl : ∀ i σ H, i ≤ xs.length → Pv i σ H → SqT K H a xs)
    (hs : ∀ i x σ H, xs[i]? = some x → Pv i σ H → g x σ H fun σ2 H2 => tb { D with nx := Pv (i + 1), ct := Pv (i + 1), bk := D.nx } σ2 H2) (hd : ∀ σ H, Pv xs.length σ H → D.nx σ H) :
    ∃ W : Nat → Nat → St → Hp → Prop, (∃ m, W 0 m σ H) ∧ ∀ i m σ H, W i m σ H →
      ((Itt K a).stop i H ∧ D.nx σ H) ∨ ((Itt K a).go i H ∧ ∃ N : St → Hp → Prop, (∀ σ' H', N σ' H' → ∃ m', m' < m ∧ W (i + 1) m' σ' H') ∧ ∀ x H', (Itt K a).yld i H x H' → g x σ H' fun σ2 H2 => tb { D with nx := N, ct := N, bk := D.nx } σ2 H2) := by
  refine ⟨fun i m σ H => m = xs.length - i ∧ i ≤ xs.length ∧ Pv i σ H, ⟨xs.length, by simp, Nat.zero_le _, h0⟩, ?_⟩
  rintro i m σ H ⟨rfl, hi, p⟩
  have q := hl i σ H hi p
  by_cases hlt : i < xs.length
  · refine .inr ⟨⟨xs, xs[i], q, by simp [hlt]⟩, Pv (i + 1), fun σ' H' p' => ⟨xs.length - (i + 1), by omega, rfl, hlt, p'⟩, fun x H' y => ?_⟩
    obtain ⟨e, y⟩ := y
    subst e
    exact hs i x σ _ (y xs q) p
  · have e : i = xs.length := by omega
    subst e
    exact .inl ⟨⟨xs, q, Nat.le_refl _⟩, hd σ H p⟩
theorem for_range {lo : Int} {n : Nat} {g : TG} {tb : TS} {D : Ends} {σ : St} {H : Hp} (Pv : Nat → St → Hp → Prop) (h0 : Pv 0 σ H)
    (hs : ∀ i σ H, i < n → Pv i σ H → g (.int (lo + i)) σ H fun σ2 H2 => tb { D with nx := Pv (i + 1), ct := Pv (i + 1), bk := D.nx } σ2 H2) (hd : ∀ σ H, Pv n σ H → D.nx σ H) :
    ∃ W : Nat → Nat → St → Hp → Prop, (∃ m, W 0 m σ H) ∧ ∀ i m σ H, W i m σ H →
      ((Itr lo n).stop i H ∧ D.nx σ H) ∨ ((Itr lo n).go i H ∧ ∃ N : St → Hp → Prop, (∀ σ' H', N σ' H' → ∃ m', m' < m ∧ W (i + 1) m' σ' H') ∧ ∀ x H', (Itr lo n).yld i H x H' → g x σ H' fun σ2 H2 => tb { D with nx := N, ct := N, bk := D.nx } σ2 H2) := by
  refine ⟨fun i m σ H => m = n - i ∧ i ≤ n ∧ Pv i σ H, ⟨n, by simp, Nat.zero_le _, h0⟩, ?_⟩
  rintro i m σ H ⟨rfl, hi, p⟩
  by_cases hlt : i < n
  · refine .inr ⟨hlt, Pv (i + 1), fun σ' H' p' => ⟨n - (i + 1), by omega, rfl, hlt, p'⟩, fun x H' y => ?_⟩
    obtain ⟨e, y⟩ := y
    subst e y
    exact hs i σ _ hlt p
  · have e : i = n := by omega
    subst e
    exact .inl ⟨Nat.le_refl _, hd σ H p⟩
end L2

namespace L2
open PySem PySem.Spec PyProof.Rows

abbrev R2 := V → V → Hp → VK → Prop
/-- a two-place operation on values: f is binaryOp op, inplaceOp op or compareOp op -/
def OpR (X : Cx) (f : Value → Value → Sem Value) (r : R2) : Prop :=
  ∀ (pins : List (Addr × Obj)) (s : Shared) (σ : St) (H : Hp) (x y : V) (v u : Value) (Q : VK), Inv X pins σ H s → RelV x v → RelV y u → r x y H Q →
    wpAny (model X.prog X.w) X.A (f v u) (EP X pins σ Q) X.xe s
/-- a one-place operation -/
def UnR (X : Cx) (f : Value → Sem Value) (r : V → Hp → VK → Prop) : Prop :=
  ∀ (pins : List (Addr × Obj)) (s : Shared) (σ : St) (H : Hp) (x : V) (v : Value) (Q : VK), Inv X pins σ H s → RelV x v → r x H Q →
    wpAny (model X.prog X.w) X.A (f v) (EP X pins σ Q) X.xe s
/-- a call of a value that is known (a builtin, a type) with values -/
def CallR (X : Cx) (f : Value) (r : List V → Hp → VK → Prop) : Prop :=
  ∀ (pins : List (Addr × Obj)) (s : Shared) (σ : St) (H : Hp) (xs : List V) (us : List Value) (Q : VK), Inv X pins σ H s → Vals xs us → r xs H Q →
    wpAny (model X.prog X.w) X.A (call f us) (EP X pins σ Q) X.xe s
/-- a value's truth -/
def TruR (X : Cx) (r : V → Hp → (Bool → Hp → Prop) → Prop) : Prop :=
  ∀ (pins : List (Addr × Obj)) (s : Shared) (σ : St) (H : Hp) (x : V) (v : Value) (Q : Bool → Hp → Prop), Inv X pins σ H s → RelV x v → r x H Q →
    wpAny (model X.prog X.w) X.A (truthy v) (TP X pins σ Q) X.xe s

def tOp (r : R2) (ta tb : TE) : TE := fun σ H Q => ta σ H fun x H1 => tb σ H1 fun y H2 => r x y H2 Q
def tUn (r : V → Hp → VK → Prop) (ta : TE) : TE := fun σ H Q => ta σ H fun x H1 => r x H1 Q
/-- ints in, under C, and a value out -/
def rI (C : Int → Int → Prop) (g : Int → Int → V) : R2 := fun x y H Q => ∃ i j, x = .int i ∧ y = .int j ∧ C i j ∧ Q (g i j) H
def rI0 (g : Int → Int → V) : R2 := fun x y H Q => ∃ i j, x = .int i ∧ y = .int j ∧ Q (g i j) H
def rU (g : Int → V) : V → Hp → VK → Prop := fun x H Q => ∃ i, x = .int i ∧ Q (g i) H

section
variable {X : Cx} {a b c : Expr} {ta tb tc : TE} {pos : Pos}

theorem binT (ha : PE X a ta) (hb : PE X b tb) {pins : List (Addr × Obj)} {s : Shared} {σ : St} {H : Hp} {R : V → V → Hp → Prop} (I : Inv X pins σ H s)
    (h : ta σ H fun x H1 => tb σ H1 fun y H2 => R x y H2) {Q : Value → Shared → Prop} {f : Value → Value → Sem Value}
    (hf : ∀ v u s2 x y H2, Inv X pins σ H2 s2 → RelV x v → RelV y u → R x y H2 → wpAny (model X.prog X.w) X.A (f v u) Q X.xe s2) :
    wpAny (model X.prog X.w) X.A (eval a X.env) (fun v s₁ => wpAny (model X.prog X.w) X.A (eval b X.env) (fun u s₂ => wpAny (model X.prog X.w) X.A (f v u) Q X.xe s₂) X.xe s₁) X.xe s := by
  refine thn (ha pins s σ H _ I h) fun v s1 ⟨x, H1, I1, r1, q1⟩ => ?_
  refine thn (hb pins s1 σ H1 _ I1 q1) fun u s2 ⟨y, H2, I2, r2, q2⟩ => ?_
  exact hf v u s2 x y H2 I2 r1 r2 q2

theorem pe_op {op : Operator} {r : R2} (ho : OpR X (binaryOp op) r) (ha : PE X a ta) (hb : PE X b tb) : PE X (.BinOp a op b pos) (tOp r ta tb) := by
  intro pins s σ H Q I h
  exact wpAny_BinOp (binT ha hb I h fun v u s2 x y H2 I2 rx ry q => ho pins s2 σ H2 x y v u Q I2 rx ry q)
theorem pe_un {op : UnaryOp} {r : V → Hp → VK → Prop} (ho : UnR X (unaryOp op) r) (ha : PE X a ta) : PE X (.UnaryOp op a pos) (tUn r ta) := by
  intro pins s σ H Q I h
  exact UnaryOp_ (thn (ha pins s σ H _ I h) fun v s1 ⟨x, H1, I1, r1, q1⟩ => ho pins s1 σ H1 x v Q I1 r1 q1)
/-! ### ints -/
theorem opI {f : Value → Value → Sem Value} {C : Int → Int → Prop} {g : Int → Int → Int}
    (rule : ∀ (i j : Int) (t u : Tok) (s : Shared) (Q : Value → Shared → Prop) (E : Value → Shared → Prop), C i j → Q (.int (g i j) s.toks) { s with toks := s.toks + 1 } → wpAny (model X.prog X.w) X.A (f (.int i t) (.int j u)) Q E s) :
    OpR X f (rI C fun i j => .int (g i j)) := by
  intro pins s σ H x y v u Q I rx ry h
  obtain ⟨i, j, rfl, rfl, hc, q⟩ := h
  obtain ⟨t, rfl⟩ := rx
  obtain ⟨t', rfl⟩ := ry
  exact rule i j t t' s _ _ hc ⟨.int (g i j), H, I.tok _, ⟨_, rfl⟩, q⟩
theorem opI0 {f : Value → Value → Sem Value} {g : Int → Int → Int}
    (rule : ∀ (i j : Int) (t u : Tok) (s : Shared) (Q : Value → Shared → Prop) (E : Value → Shared → Prop), Q (.int (g i j) s.toks) { s with toks := s.toks + 1 } → wpAny (model X.prog X.w) X.A (f (.int i t) (.int j u)) Q E s) :
    OpR X f (rI0 fun i j => .int (g i j)) := by
  intro pins s σ H x y v u Q I rx ry h
  obtain ⟨i, j, rfl, rfl, q⟩ := h
  obtain ⟨t, rfl⟩ := rx
  obtain ⟨t', rfl⟩ := ry
  exact rule i j t t' s _ _ ⟨.int (g i j), H, I.tok _, ⟨_, rfl⟩, q⟩
theorem opB0 {f : Value → Value → Sem Value} {g : Int → Int → Bool}
    (rule : ∀ (i j : Int) (t u : Tok) (s : Shared) (Q : Value → Shared → Prop) (E : Value → Shared → Prop), Q (.bool (g i j)) s → wpAny (model X.prog X.w) X.A (f (.int i t) (.int j u)) Q E s) :
    OpR X f (rI0 fun i j => .bl (g i j)) := by
  intro pins s σ H x y v u Q I rx ry h
  obtain ⟨i, j, rfl, rfl, q⟩ := h
  obtain ⟨t, rfl⟩ := rx
  obtain ⟨t', rfl⟩ := ry
  exact rule i j t t' s _ _ ⟨.bl (g i j), H, I, rfl, q⟩

def CDiv (i j : Int) : Prop := 0 < j ∧ j < 1073741824
def CDivN (i j : Int) : Prop := j ≠ 0 ∧ j.natAbs < 1073741824
def CPow (i j : Int) : Prop := 0 ≤ j ∧ j ≤ 1000000 ∧ i.natAbs < 2 ^ 64
def CMul (i j : Int) : Prop := (-(2 ^ 64) < i ∧ i < 2 ^ 64) ∨ (-(2 ^ 64) < j ∧ j < 2 ^ 64)
theorem CMul.ok {i j : Int} (h : CMul i j) : IntMulOk i j := by
  rcases h with ⟨h1, h2⟩ | ⟨h1, h2⟩
  · exact .of_left (intBits_le_64 h1 h2)
  · exact .of_right (intBits_le_64 h1 h2)
theorem op_add : OpR X (binaryOp .Add) (rI0 fun i j => .int (i + j)) := opI0 fun _ _ _ _ _ _ _ q => add_int q
theorem op_sub : OpR X (binaryOp .Sub) (rI0 fun i j => .int (i - j)) := opI0 fun _ _ _ _ _ _ _ q => sub_int q
theorem op_mul : OpR X (binaryOp .Mult) (rI CMul fun i j => .int (i * j)) := opI fun _ _ _ _ _ _ _ hc q => mul_int q hc.ok
/-- % by a positive divisor of any size -/
theorem op_mod : OpR X (binaryOp .Mod) (rI (fun _ j => 0 < j) fun i j => .int (i % j)) := opI fun i j _ _ _ _ _ hc q => by
  have h1 : (0 : Int) < j := hc
  exact mod_int' (by omega) (by rw [Int.fmod_eq_emod_of_nonneg i (by omega)]; exact q)
theorem unI {f : Value → Sem Value} {g : Int → Int}
    (rule : ∀ (i : Int) (t : Tok) (s : Shared) (Q : Value → Shared → Prop) (E : Value → Shared → Prop), Q (.int (g i) s.toks) { s with toks := s.toks + 1 } → wpAny (model X.prog X.w) X.A (f (.int i t)) Q E s) :
    UnR X f (rU fun i => .int (g i)) := by
  intro pins s σ H x v Q I rx h
  obtain ⟨i, rfl, q⟩ := h
  obtain ⟨t, rfl⟩ := rx
  exact rule i t s _ _ ⟨.int (g i), H, I.tok _, ⟨_, rfl⟩, q⟩
theorem un_neg : UnR X (unaryOp .USub) (rU fun i => .int (-i)) := unI fun _ _ _ _ _ q => neg_int q
/-! ### bools among ints: n += (a < b) -/
end

/-! ### comparisons -/
/-- the scalars that == tells apart as data does -/
def scal : V → V → Bool
  | .non, .non => true | .non, .int _ => true | .int _, .non => true | .non, .bl _ => true | .bl _, .non => true | .non, .str _ => true | .str _, .non => true
  | .int _, .int _ => true | .bl _, .bl _ => true | .str _, .str _ => true | .byt _, .byt _ => true
  | .int _, .str _ => true | .str _, .int _ => true | .bl _, .str _ => true | .str _, .bl _ => true
  | _, _ => false
def rEq : R2 := fun x y H Q => scal x y = true ∧ Q (.bl (decide (x = y))) H
def rNe : R2 := fun x y H Q => scal x y = true ∧ Q (.bl (!decide (x = y))) H

theorem dec_int {i j : Int} : decide (V.int i = V.int j) = (i == j) := by
  rw [Bool.eq_iff_iff]
  simp
theorem dec_bl {i j : Bool} : decide (V.bl i = V.bl j) = (i == j) := by
  rw [Bool.eq_iff_iff]
  simp
theorem dec_str {i j : Str} : decide (V.str i = V.str j) = (i == j) := by
  rw [Bool.eq_iff_iff]
  simp
theorem dec_byt {i j : Array UInt8} : decide (V.byt i = V.byt j) = (i.toList == j.toList) := by
  rw [Bool.eq_iff_iff]
  cases i
  cases j
  simp

section
variable {X : Cx} {a b c : Expr} {ta tb tc : TE} {pos : Pos}
theorem fin_bl {pins : List (Addr × Obj)} {σ : St} {H : Hp} {s : Shared} {Q : VK} {k k' : Bool} (I : Inv X pins σ H s) (q : Q (.bl k) H) (e : k = k') : EP X pins σ Q (.bool k') s := by
  subst e
  exact ⟨.bl k, H, I, rfl, q⟩
theorem op_eq : OpR X (compareOp .Eq) rEq := by
  intro pins s σ H x y v u Q I rx ry h
  obtain ⟨hs, q⟩ := h
  cases x with
  | non =>
    cases rx
    cases y with
    | non => cases ry; exact PySem.EqNone.eq_none_none (fin_bl I q (by simp))
    | bl j => cases ry; exact PySem.EqNone.eq_none_bool (fin_bl I q (by simp))
    | int j => obtain ⟨t', rfl⟩ := ry; exact PySem.EqNone.eq_none_int (fin_bl I q (by simp))
    | str j => obtain ⟨t', rfl⟩ := ry; exact PySem.EqNone.eq_none_str (fin_bl I q (by simp))
    | _ => exact absurd (show false = true from hs) Bool.false_ne_true
  | bl i =>
    cases rx
    cases y with
    | non => cases ry; exact PySem.EqNone.eq_bool_none (fin_bl I q (by simp))
    | bl j => cases ry; exact eq_bool (fin_bl I q dec_bl)
    | str j => obtain ⟨t', rfl⟩ := ry; exact PySem.EqMixed.eq_bool_str (fin_bl I q (by simp))
    | _ => exact absurd (show false = true from hs) Bool.false_ne_true
  | int i =>
    obtain ⟨t, rfl⟩ := rx
    cases y with
    | non => cases ry; exact PySem.EqNone.eq_int_none (fin_bl I q (by simp))
    | int j => obtain ⟨t', rfl⟩ := ry; exact eq_int (fin_bl I q dec_int)
    | str j => obtain ⟨t', rfl⟩ := ry; exact PySem.EqMixed.eq_int_str (fin_bl I q (by simp))
    | _ => exact absurd (show false = true from hs) Bool.false_ne_true
  | str i =>
    obtain ⟨t, rfl⟩ := rx
    cases y with
    | non => cases ry; exact PySem.EqNone.eq_str_none (fin_bl I q (by simp))
    | bl j => cases ry; exact PySem.EqMixed.eq_str_bool (fin_bl I q (by simp))
    | int j => obtain ⟨t', rfl⟩ := ry; exact PySem.EqMixed.eq_str_int (fin_bl I q (by simp))
    | str j => obtain ⟨t', rfl⟩ := ry; exact eq_str (fin_bl I q dec_str)
    | _ => exact absurd (show false = true from hs) Bool.false_ne_true
  | byt i =>
    obtain ⟨t, rfl⟩ := rx
    cases y with
    | byt j => obtain ⟨t', rfl⟩ := ry; exact PySem.W.eq_bytes (fin_bl I q dec_byt)
    | _ => exact absurd (show false = true from hs) Bool.false_ne_true
  | _ => cases y <;> exact absurd (show false = true from hs) Bool.false_ne_true
theorem op_ne : OpR X (compareOp .NotEq) rNe := by
  intro pins s σ H x y v u Q I rx ry h
  obtain ⟨hs, q⟩ := h
  cases x with
  | non =>
    cases rx
    cases y with
    | non => cases ry; exact PySem.EqNone.ne_none_none (fin_bl I q (by simp))
    | bl j => cases ry; exact PySem.EqNone.ne_none_bool (fin_bl I q (by simp))
    | int j => obtain ⟨t', rfl⟩ := ry; exact PySem.EqNone.ne_none_int (fin_bl I q (by simp))
    | str j => obtain ⟨t', rfl⟩ := ry; exact PySem.EqNone.ne_none_str (fin_bl I q (by simp))
    | _ => exact absurd (show false = true from hs) Bool.false_ne_true
  | bl i =>
    cases rx
    cases y with
    | non => cases ry; exact PySem.EqNone.ne_bool_none (fin_bl I q (by simp))
    | bl j => cases ry; exact ne_bool (fin_bl I q (congrArg not dec_bl))
    | str j => obtain ⟨t', rfl⟩ := ry; exact PySem.EqMixed.ne_bool_str (fin_bl I q (by simp))
    | _ => exact absurd (show false = true from hs) Bool.false_ne_true
  | int i =>
    obtain ⟨t, rfl⟩ := rx
    cases y with
    | non => cases ry; exact PySem.EqNone.ne_int_none (fin_bl I q (by simp))
    | int j => obtain ⟨t', rfl⟩ := ry; exact ne_int (fin_bl I q (congrArg not dec_int))
    | str j => obtain ⟨t', rfl⟩ := ry; exact PySem.EqMixed.ne_int_str (fin_bl I q (by simp))
    | _ => exact absurd (show false = true from hs) Bool.false_ne_true
  | str i =>
    obtain ⟨t, rfl⟩ := rx
    cases y with
    | non => cases ry; exact PySem.EqNone.ne_str_none (fin_bl I q (by simp))
    | bl j => cases ry; exact PySem.EqMixed.ne_str_bool (fin_bl I q (by simp))
    | int j => obtain ⟨t', rfl⟩ := ry; exact PySem.EqMixed.ne_str_int (fin_bl I q (by simp))
    | str j => obtain ⟨t', rfl⟩ := ry; exact ne_str (fin_bl I q (congrArg not dec_str))
    | _ => exact absurd (show false = true from hs) Bool.false_ne_true
  | byt i =>
    obtain ⟨t, rfl⟩ := rx
    cases y with
    | byt j => obtain ⟨t', rfl⟩ := ry; exact PySem.W.ne_bytes (fin_bl I q (congrArg not dec_byt))
    | _ => exact absurd (show false = true from hs) Bool.false_ne_true
  | _ => cases y <;> exact absurd (show false = true from hs) Bool.false_ne_true

theorem op_lt : OpR X (compareOp .Lt) (rI0 fun i j => .bl (decide (i < j))) := opB0 fun _ _ _ _ _ _ _ q => lt_int q
theorem op_le : OpR X (compareOp .LtE) (rI0 fun i j => .bl (decide (i ≤ j))) := opB0 fun _ _ _ _ _ _ _ q => le_int q
theorem op_gt : OpR X (compareOp .Gt) (rI0 fun i j => .bl (decide (j < i))) := opB0 fun _ _ _ _ _ _ _ q => gt_int q
theorem op_ge : OpR X (compareOp .GtE) (rI0 fun i j => .bl (decide (j ≤ i))) := opB0 fun _ _ _ _ _ _ _ q => ge_int q
theorem op_lt_str : OpR X (compareOp .Lt) (fun x y H Q => ∃ i j, x = .str i ∧ y = .str j ∧ Q (.bl (decide (i.cps.toList < j.cps.toList))) H) := by
  intro pins s σ H x y v u Q I rx ry h
  obtain ⟨i, j, rfl, rfl, q⟩ := h
  obtain ⟨t, rfl⟩ := rx
  obtain ⟨t', rfl⟩ := ry
  exact lt_str (fin_bl I q rfl)
/-- is, is not of two objects that are tracked lists or instances -/
def isObj : HO → Bool
  | .lst _ => true
  | .ins _ _ _ => true
  | _ => false
/-- two rules for one operation: by cases -/
theorem OpR.or {f : Value → Value → Sem Value} {r r' : R2} (h : OpR X f r) (h' : OpR X f r') : OpR X f (fun x y H Q => r x y H Q ∨ r' x y H Q) := by
  intro pins s σ H x y v u Q I rx ry q
  rcases q with q | q
  · exact h pins s σ H x y v u Q I rx ry q
  · exact h' pins s σ H x y v u Q I rx ry q

theorem nomark (b : Expr) {op : CmpOp} (h : op ≠ .In := by decide) (h2 : op ≠ .NotIn := by decide) : behindInMarks op b = false := by
  have e1 : (op == CmpOp.In) = false := by cases op <;> first | rfl | exact absurd rfl h
  have e2 : (op == CmpOp.NotIn) = false := by cases op <;> first | rfl | exact absurd rfl h2
  cases b <;> simp [behindInMarks, e1, e2]
/-- a comparison as a value; hm: nomark b, or (for in, not in) by with_unfolding_all rfl -/
theorem pe_cmpR {op : CmpOp} {r : R2} (ho : OpR X (compareOp op) r) (ha : PE X a ta) (hb : PE X b tb) (hm : behindInMarks op b = false) : PE X (.Compare a [op] [b] pos) (tOp r ta tb) := by
  intro pins s σ H Q I h
  exact wpAny_Compare1 (binT ha hb I h fun v u s2 x y H2 I2 rx ry q => ho pins s2 σ H2 x y v u Q I2 rx ry q) hm
/-- a reading of a value as a test -/
def tTest (t : TE) : TT := fun σ H Q => t σ H fun x H' => ∃ k, x = .bl k ∧ Q k H'
theorem pt_cmpR {op : CmpOp} {r : R2} (ho : OpR X (compareOp op) r) (ha : PE X a ta) (hb : PE X b tb) (hm : behindInMarks op b = false) : PT X (.Compare a [op] [b] pos) (tTest (tOp r ta tb)) := by
  intro pins s σ H Q I h
  refine wpAny_isTrue_Compare1 (thn (ha pins s σ H _ I h) fun v s1 ⟨x, H1, I1, r1, q1⟩ => thn (hb pins s1 σ H1 _ I1 q1) fun u s2 ⟨y, H2, I2, r2, q2⟩ =>
    thn (ho pins s2 σ H2 x y v u _ I2 r1 r2 q2) fun c s3 ⟨z, H3, I3, r3, k, e, q3⟩ => ?_) hm
  subst e
  cases r3
  exact wpAny_truthy_bool ⟨H3, I3, q3⟩
/-- a op1 b op2 c -/
def tChain (r r' : R2) (ta tb tc : TE) : TE := fun σ H Q => ta σ H fun x H1 => tb σ H1 fun y H2 => r x y H2 fun z H3 => ∃ k, z = .bl k ∧
  (if k = true then tc σ H3 fun w' H4 => r' y w' H4 Q else Q (.bl false) H3)
theorem pe_chain {op op' : CmpOp} {r r' : R2} (ho : OpR X (compareOp op) r) (ho' : OpR X (compareOp op') r') (ha : PE X a ta) (hb : PE X b tb) (hc : PE X c tc)
    (hm : lastMarks [op, op'] [b, c] = false := by with_unfolding_all rfl) : PE X (.Compare a [op, op'] [b, c] pos) (tChain r r' ta tb tc) := by
  intro pins s σ H Q I h
  refine Compare_chain (thn (ha pins s σ H _ I h) fun v s1 ⟨x, H1, I1, r1, q1⟩ => chain_link (thn (hb pins s1 σ H1 _ I1 q1) fun u s2 ⟨y, H2, I2, r2, q2⟩ =>
    thn (ho pins s2 σ H2 x y v u _ I2 r1 r2 q2) fun d s3 ⟨z, H3, I3, r3, k, e, q3⟩ => ?_)) hm
  subst e
  cases r3
  refine wpAny_truthy_bool ?_
  cases k with
  | false => exact ite_ff ⟨.bl false, H3, I3, rfl, q3⟩
  | true => exact ite_tt (chain_last (thn (hc pins s3 σ H3 _ I3 q3) fun w' s4 ⟨z', H4, I4, r4, q4⟩ => ho' pins s4 σ H4 y z' u w' Q I4 r2 r4 q4))
theorem pt_chain {op op' : CmpOp} {r r' : R2} (ho : OpR X (compareOp op) r) (ho' : OpR X (compareOp op') r') (ha : PE X a ta) (hb : PE X b tb) (hc : PE X c tc)
    (hm : lastMarks [op, op'] [b, c] = false := by with_unfolding_all rfl) : PT X (.Compare a [op, op'] [b, c] pos) (tTest (tChain r r' ta tb tc)) := by
  intro pins s σ H Q I h
  refine isTrue_chain (thn (ha pins s σ H _ I h) fun v s1 ⟨x, H1, I1, r1, q1⟩ => test_link (thn (hb pins s1 σ H1 _ I1 q1) fun u s2 ⟨y, H2, I2, r2, q2⟩ =>
    thn (ho pins s2 σ H2 x y v u _ I2 r1 r2 q2) fun d s3 ⟨z, H3, I3, r3, k, e, q3⟩ => ?_)) hm
  subst e
  cases r3
  refine wpAny_truthy_bool ?_
  cases k with
  | false =>
    obtain ⟨k', e', q'⟩ := q3
    cases e'
    exact ite_ff ⟨H3, I3, q'⟩
  | true =>
    refine ite_tt (test_last (thn (hc pins s3 σ H3 _ I3 q3) fun w' s4 ⟨z', H4, I4, r4, q4⟩ => thn (ho' pins s4 σ H4 y z' u w' _ I4 r2 r4 q4) fun d' s5 ⟨z2, H5, I5, r5, k2, e2, q5⟩ => ?_))
    subst e2
    cases r5
    exact wpAny_truthy_bool ⟨H5, I5, q5⟩

/-! ### truth -/
/-- a value's truth by the abstract heap -/
def TruV (K : PySem.W.Frag) (x : V) (H : Hp) (k : Bool) : Prop :=
  match x with
  | .non => k = false
  | .bl b => k = b
  | .int i => k = (i != 0)
  | .str y => y.length ≤ sizeLine ∧ k = ((y.length : Int) != 0)
  | .byt y => y.size ≤ sizeLine ∧ k = ((y.size : Int) != 0)
  | .ref p => (∃ xs, SqL K H p xs ∧ k = !xs.isEmpty) ∨ (∃ xs, SqT K H p xs ∧ k = !xs.isEmpty) ∨ ∃ kvs, H p = some (.dK kvs) ∧ k = !kvs.isEmpty
  | _ => False
theorem line63 : (sizeLine : Nat) < 2 ^ 63 := by rw [sizeLine_eq]; decide
/-! ### strs and bytes -/
def PlainIxT (b : Expr) : Prop := ∀ o i, subscripted b false o i = operate [o, i] (getItem o i)
/-! ### scalar builtins, by CallR -/
theorem vals1 {x : V} {us : List Value} (r : Vals [x] us) : ∃ u, us = [u] ∧ RelV x u := by
  cases r with
  | cons r1 r2 => cases r2; exact ⟨_, rfl, r1⟩
theorem vals2 {x y : V} {us : List Value} (r : Vals [x, y] us) : ∃ u w', us = [u, w'] ∧ RelV x u ∧ RelV y w' := by
  cases r with
  | cons r1 r2 =>
    cases r2 with
    | cons r3 r4 => cases r4; exact ⟨_, _, rfl, r1, r3⟩
theorem call_max2 (hc : X.calm = true) : CallR X (.builtin "max") (fun xs H Q => ∃ i j, xs = [.int i, .int j] ∧ Q (.int (if j > i then j else i)) H) := by
  intro pins s σ H xs us Q I r h
  obtain ⟨i, j, rfl, q⟩ := h
  obtain ⟨u, w', rfl, ⟨t, rfl⟩, ⟨t', rfl⟩⟩ := vals2 r
  refine max_two_ints (I.ok.hd hc) fun h' tk k => ⟨_, H, I.kept k, ?_, q⟩
  by_cases hj : j > i
  · rw [if_pos hj, if_pos hj]; exact ⟨_, rfl⟩
  · rw [if_neg hj, if_neg hj]; exact ⟨_, rfl⟩
theorem call_min2 (hc : X.calm = true) : CallR X (.builtin "min") (fun xs H Q => ∃ i j, xs = [.int i, .int j] ∧ Q (.int (if j < i then j else i)) H) := by
  intro pins s σ H xs us Q I r h
  obtain ⟨i, j, rfl, q⟩ := h
  obtain ⟨u, w', rfl, ⟨t, rfl⟩, ⟨t', rfl⟩⟩ := vals2 r
  refine min_two_ints (I.ok.hd hc) fun h' tk k => ⟨_, H, I.kept k, ?_, q⟩
  by_cases hj : j < i
  · rw [if_pos hj, if_pos hj]; exact ⟨_, rfl⟩
  · rw [if_neg hj, if_neg hj]; exact ⟨_, rfl⟩
/-- len of a str, a bytes, a list, a tuple -/
def LenV (K : PySem.W.Frag) (x : V) (H : Hp) (n : Nat) : Prop :=
  match x with
  | .str y => y.length ≤ sizeLine ∧ n = y.length
  | .byt y => y.size ≤ sizeLine ∧ n = y.size
  | .ref p => (∃ xs, SqL K H p xs ∧ n = xs.length) ∨ ∃ xs, SqT K H p xs ∧ n = xs.length
  | _ => False
end
end L2

namespace L2
open PySem PySem.Spec PyProof.Rows

/-! ### an instance, its attributes a map -/
structure ObjM (h : Heap) (x dx C : Addr) (mA : Str → Option Value) : Prop where
  obj : h.get? x = some (PySem.W.instObj C dx)
  ns : h.Ns1 dx mA
  ne : dx ≠ x

theorem lookIn_ns {h : Heap} {dx : Addr} {mA : Str → Option Value} (n : h.Ns1 dx mA) : ∃ od, h.get? dx = some od ∧ ∀ name, PySem.W.lookIn name od = some (mA name) := by
  obtain ⟨o, es, ep, ho, hd, hk, _, hm⟩ := n
  refine ⟨o, ho, fun name => ?_⟩
  have e := hm name
  unfold nsFind findBy at e
  rw [← Array.find?_toList] at e
  unfold PySem.W.lookIn
  rw [hd]
  dsimp only
  split
  · rename_i y q
    rw [q] at e
    exact congrArg some e
  · rename_i q
    rw [q] at e
    have a : es.toList.any (·.refKey) = false := by
      rw [List.any_eq_false]
      intro y hy
      obtain ⟨z, t, hkey⟩ := hk y (Array.mem_toList_iff.mp hy)
      simp [DictEntry.refKey, hkey]
    have a' : ¬ es.toList.any (·.refKey) = true := by rw [a]; exact Bool.false_ne_true
    rw [if_neg a']
    exact congrArg some e

theorem ObjM.look {h : Heap} {x dx C : Addr} {mA : Str → Option Value} (I : ObjM h x dx C mA) : ∃ od, PySem.W.InstAt h x (PySem.W.instObj C dx) C (some od) ∧ ∀ name, PySem.W.lookIn name od = some (mA name) :=
  let ⟨od, ho, hl⟩ := lookIn_ns I.ns
  ⟨od, ⟨I.obj, rfl, rfl, ho⟩, hl⟩

section
variable {prog : Program} {w : World} {A : Around} {E : Value → Shared → Prop} {s : Shared} {K : PySem.W.Frag} {x dx C f : Addr} {mA : Str → Option Value} {name : Str} {v : Value}

end

/-! ### the attributes as a list of pairs -/
def putF (f : Str) (v : V) : List (Str × V) → List (Str × V)
  | [] => [(f, v)]
  | (g, x) :: r => if g = f then (g, v) :: r else (g, x) :: putF f v r
theorem RelO.some_of {v : V} {o : Option Value} (r : RelO (some v) o) : ∃ u, o = some u ∧ RelV v u := by
  cases o with
  | none => exact (show False from r).elim
  | some u => exact ⟨u, rfl, r⟩
theorem RelO.none_of {o : Option Value} (r : RelO none o) : o = none := by
  cases o with
  | none => rfl
  | some u => exact (show False from r).elim
section
variable {P : Program} {w : World} {H H' : Hp} {h h' : Heap} {a C dx : Addr} {fs fs' : List (Str × V)}
theorem ins_get (hok : HOk P w H h) (e : H a = some (.ins C dx fs)) : ∃ mA, ObjM h a dx C mA ∧ (∀ f, RelO (fs.lookup f) (mA f)) ∧ PySem.Within mA (fs.map (·.1)) ∧ fs.length ≤ 1000 ∧ H dx = some (.own a) := by
  obtain ⟨d, z, ne, ob, mA, n, r, q⟩ := (show ObjOk P w H h a (.ins C dx fs) from hok a _ e)
  exact ⟨mA, ⟨ob, n, ne⟩, r, q, z, d⟩
end

/-! ### what of the text a class must have -/
structure Cls (K : PySem.W.Frag) (C : Addr) : Prop where
  pg : PySem.W.plainGet K C Str.empty = true
  hd : PySem.W.hasDictIn K C = true
  po : PySem.W.plainOver K C = true
  sa : PySem.W.findIn K (.ref C) "__setattr__" = some (some (.builtin "object.__setattr__"))
theorem Cls.get {K : PySem.W.Frag} {C : Addr} (c : Cls K C) (f : Str) : PySem.W.plainGet K C f = true := c.pg
/-- no class of it has the name -/
def NoAttr (K : PySem.W.Frag) (C : Addr) (f : Str) : Prop := PySem.W.findIn K (.ref C) f = some none
/-- a constant of the class -/
structure Con (K : PySem.W.Frag) (C : Addr) (f : Str) (v : V) (u : Value) : Prop where
  at_ : PySem.W.findIn K (.ref C) f = some (some u)
  rel : RelV v u
  get : PySem.W.specialIn K u "__get__" = some none
  cp : PySem.W.copiedNames.contains f = false
/-- a method: a plain def of the class or of one above it -/
structure Meth (K : PySem.W.Frag) (C : Addr) (m : Str) (f : Addr) : Prop where
  at_ : PySem.W.findIn K (.ref C) m = some (some (.ref f))
  fn : PySem.W.isFn K (.ref f) = true
  kp : PySem.W.keepIn K (.ref f) = true

section
variable {X : Cx} {pins : List (Addr × Obj)} {σ : St} {H : Hp} {s : Shared} {a C dx : Addr} {fs : List (Str × V)} {f : Str} {v : V} {A : Around} {E : Value → Shared → Prop}

/-- a new instance, tracked, without attributes -/
theorem Inv.made (I : Inv X pins σ H s) : Inv X pins σ (upd (upd H s.heap.objs.size (.own (s.heap.objs.size + 1))) (s.heap.objs.size + 1) (.ins C s.heap.objs.size []))
    { s with heap := (s.heap.push PySem.W.emptyDict).push (PySem.W.instObj C s.heap.objs.size) } := by
  have e1 : (s.heap.push PySem.W.emptyDict).get? s.heap.objs.size = some PySem.W.emptyDict := Heap.get?_push_size s.heap rfl
  have e2 : ((s.heap.push PySem.W.emptyDict).push (PySem.W.instObj C s.heap.objs.size)).get? (s.heap.objs.size + 1) = some (PySem.W.instObj C s.heap.objs.size) := by
    have := Heap.get?_push_size (s.heap.push PySem.W.emptyDict) (o := PySem.W.instObj C s.heap.objs.size) rfl
    rwa [Heap.size_push] at this
  have e3 : (s.heap.push PySem.W.emptyDict).Ns s.heap.objs.size (fun _ => none) := ⟨PySem.W.emptyDict, #[], _, e1, rfl, (fun e he => absurd he (by simp)), fun _ => rfl⟩
  have I1 := I.laid (a := s.heap.objs.size) (o := .own (s.heap.objs.size + 1)) (h' := s.heap.push PySem.W.emptyDict) (t' := s.toks) (fun b u q => Heap.get?_push_of_some _ q) (Nat.le_refl _) ⟨_, e1⟩
  refine I1.laid (a := s.heap.objs.size + 1) (o := .ins C s.heap.objs.size []) (t' := s.toks) (fun b u q => Heap.get?_push_of_some _ q) (Nat.le_of_eq (Heap.size_push _ _)) ?_
  have ne : s.heap.objs.size ≠ s.heap.objs.size + 1 := Nat.ne_of_lt (Nat.lt_succ_self _)
  refine ⟨by rw [upd_ne ne, upd_same], Nat.zero_le _, ne, e2, fun _ => none, (Heap.Ns1.of_empty e3).at fun o q => Heap.get?_push_of_some _ q, fun _ => True.intro, fun y hy => absurd rfl hy⟩

end

/-! ### readings and rules -/
/-- e.f, an attribute of the instance -/
def tFld (K : PySem.W.Frag) (ta : TE) (f : Str) : TE := fun σ H Q => ta σ H fun x H1 => ∃ a C dx fs v, x = .ref a ∧ H1 a = some (.ins C dx fs) ∧ Cls K C ∧ NoAttr K C f ∧ fs.lookup f = some v ∧ Q v H1
/-- e.f, a constant of the class -/
def tCon (K : PySem.W.Frag) (ta : TE) (f : Str) : TE := fun σ H Q => ta σ H fun x H1 => ∃ a C dx fs v u, x = .ref a ∧ H1 a = some (.ins C dx fs) ∧ Cls K C ∧ Con K C f v u ∧ fs.lookup f = none ∧ Q v H1
/-- e.f = value -/
def sFld (K : PySem.W.Frag) (ta tv : TE) (f : Str) : TS := fun D σ H => tv σ H fun y H1 => ta σ H1 fun x H2 => ∃ a C dx fs, x = .ref a ∧ H2 a = some (.ins C dx fs) ∧ Cls K C ∧ NoAttr K C f ∧ fs.length < 1000 ∧
  D.nx σ (upd H2 a (.ins C dx (putF f y fs)))
/-- an augmented operator on two values -/
def InOp (X : Cx) (op : Operator) (rd : V → V → Hp → VK → Prop) : Prop :=
  ∀ (pins : List (Addr × Obj)) (s : Shared) (σ : St) (H : Hp) (x y : V) (u v : Value) (Q : VK), Inv X pins σ H s → RelV x u → RelV y v → rd x y H Q → wpAny (model X.prog X.w) X.A (inplaceOp op u v) (EP X pins σ Q) X.xe s
/-- e.f op= value -/
def sFldAug (K : PySem.W.Frag) (ta tv : TE) (rd : V → V → Hp → VK → Prop) (f : Str) : TS := fun D σ H => ta σ H fun x H1 => ∃ a C dx fs v, x = .ref a ∧ H1 a = some (.ins C dx fs) ∧ Cls K C ∧ NoAttr K C f ∧ fs.lookup f = some v ∧
  tv σ H1 fun y H2 => rd v y H2 fun z H3 => ∃ dx' fs', H3 a = some (.ins C dx' fs') ∧ fs'.length < 1000 ∧ D.nx σ (upd H3 a (.ins C dx' (putF f z fs')))

section
variable {X : Cx} {o e value : Expr} {f : Str} {pos pos' tpos : Pos} {ta tv : TE}
def rAdd : V → V → Hp → VK → Prop := fun x y H Q => ∃ i j, x = .int i ∧ y = .int j ∧ Q (.int (i + j)) H
def rSub : V → V → Hp → VK → Prop := fun x y H Q => ∃ i j, x = .int i ∧ y = .int j ∧ Q (.int (i - j)) H
end

/-! ### isinstance -/
section
variable {X : Cx} {pins : List (Addr × Obj)} {σ : St} {H : Hp} {s : Shared} {A : Around} {E : Value → Shared → Prop} {Q : Value → Shared → Prop} {c : Value} {b : Bool}
/-- the type of a value, as the fragment's deciders take it; for an instance its class -/
inductive TyOf (K : PySem.W.Frag) (H : Hp) : V → Value → Prop where
  | non : TyOf K H .non (.type "NoneType")
  | bl (x : Bool) : TyOf K H (.bl x) (.type "bool")
  | int (i : Int) : TyOf K H (.int i) (.type "int")
  | str (x : Str) : TyOf K H (.str x) (.type "str")
  | flt (x : UInt64) : TyOf K H (.flt x) (.type "float")
  | lst {a : Addr} {xs : List V} (e : H a = some (.lst xs)) : TyOf K H (.ref a) (.type "list")
  | frz {a : Addr} {o : Obj} {xs : List V} (e : H a = some (.frz o (.lst xs))) : TyOf K H (.ref a) (.type "list")
  | tup {a : Addr} {xs : List V} (e : H a = some (.tup xs)) : TyOf K H (.ref a) (.type "tuple")
  | dK {a : Addr} {kvs : List (Key × V)} (e : H a = some (.dK kvs)) : TyOf K H (.ref a) (.type "dict")
  | dT {a : Addr} {kvs : List (List Key × V)} (e : H a = some (.dT kvs)) : TyOf K H (.ref a) (.type "dict")
  | ins {a C dx : Addr} {fs : List (Str × V)} (e : H a = some (.ins C dx fs)) (cl : Cls K C) (ha : PySem.W.findIn K (.ref C) "__class__" = some (some (.builtin "object.__class__")))
      (hn : PySem.W.specialIn K (.builtin "object.__class__") "__get__" = some (some (.builtin "getset_descriptor.__get__"))) (htk : PySem.W.takesIn K (.builtin "object.__class__") = some true)
      (hm : PySem.W.mroIn K C (.type "object") = some true) : TyOf K H (.ref a) (.ref C)
/-- isinstance(x, c) for one class c, a built-in or an own one: kitOne's answer -/
theorem isinst_ok {x : V} {u t : Value} (I : Inv X pins σ H s) (rx : RelV x u) (ty : TyOf X.K H x t) (e : PySem.W.kitOne X.K t c = some b) (h : ∀ tk, Q (.bool b) { s with toks := tk }) :
    wpAny (model X.prog X.w) A (call (.builtin "isinstance") [u, c]) Q E s := by
  cases ty with
  | non => cases (show u = Value.none from rx); exact PySem.W.kia_one PySem.W.kitx_none I.kIn True.intro e (fun z => nomatch z) h
  | bl y => cases (show u = Value.bool y from rx); exact PySem.W.kia_one PySem.W.kitx_bool I.kIn True.intro e (fun z => nomatch z) h
  | int i => obtain ⟨t, q⟩ := (show ∃ t, u = Value.int i t from rx); cases q; exact PySem.W.kia_one PySem.W.kitx_int I.kIn True.intro e (fun z => nomatch z) h
  | str y => obtain ⟨t, q⟩ := (show ∃ t, u = Value.str y t from rx); cases q; exact PySem.W.kia_one PySem.W.kitx_str I.kIn True.intro e (fun z => nomatch z) h
  | flt y => obtain ⟨t, q⟩ := (show ∃ t, u = Value.float y t from rx); cases q; exact PySem.W.kia_one PySem.W.kitx_float I.kIn True.intro e (fun z => nomatch z) h
  | @lst a xs ea =>
    cases (show u = Value.ref a from rx)
    obtain ⟨_, _, n, _, h1⟩ := (show ObjOk X.prog X.w H s.heap a (.lst xs) from I.hok a _ ea)
    exact PySem.W.kia_one PySem.W.kitx_list I.kIn ⟨_, h1, rfl⟩ e (fun z => nomatch z) h
  | @frz a ob xs ea =>
    cases (show u = Value.ref a from rx)
    obtain ⟨_, _, _, n, _, h1⟩ := (show ObjOk X.prog X.w H s.heap a (.frz ob (.lst xs)) from I.hok a _ ea)
    exact PySem.W.kia_one PySem.W.kitx_list I.kIn ⟨_, h1, rfl⟩ e (fun z => nomatch z) h
  | @tup a xs ea =>
    cases (show u = Value.ref a from rx)
    obtain ⟨_, _, _, p⟩ := (show ObjOk X.prog X.w H s.heap a (.tup xs) from I.hok a _ ea)
    obtain ⟨o, h1, h2, _⟩ := p
    exact PySem.W.kia_one PySem.W.kitx_tuple I.kIn ⟨o, h1, h2⟩ e (fun z => nomatch z) h
  | @dK a kvs ea =>
    cases (show u = Value.ref a from rx)
    obtain ⟨_, _, vs, _, p⟩ := (show ObjOk X.prog X.w H s.heap a (.dK kvs) from I.hok a _ ea)
    obtain ⟨o, es, ep, h1, h2, _⟩ := p
    exact PySem.W.kia_one PySem.W.kitx_dict I.kIn ⟨o, h1, h2.1⟩ e (fun z => nomatch z) h
  | @dT a kvs ea =>
    cases (show u = Value.ref a from rx)
    obtain ⟨_, _, xs, _, o, es, ep, h1, h2, _⟩ := (show ObjOk X.prog X.w H s.heap a (.dT kvs) from I.hok a _ ea)
    exact PySem.W.kia_one PySem.W.kitx_dict I.kIn ⟨o, h1, h2.1⟩ e (fun z => nomatch z) h
  | @ins a C dx fs ea cl ha hn htk hm =>
    cases (show u = Value.ref a from rx)
    obtain ⟨mA, O, _⟩ := ins_get I.hok ea
    obtain ⟨od, J, _⟩ := O.look
    exact PySem.W.kia_one (PySem.W.kitx_own (cl.get _) cl.hd ha hn htk hm) I.kIn J e (fun z => nomatch z) h
end
end L2

namespace L2
open PySem PySem.Spec PyProof.Rows

/-! ### room -/
structure Room (k : Nat) (A : Around) : Prop where
  hd : A.handled = none
  dp : A.depth + 3 * k + 5 < recursionLimit
  un : A.units + 16 * k + 200 < cLine
theorem Room.mono {j k : Nat} {A : Around} (r : Room k A) (h : j ≤ k) : Room j A := ⟨r.hd, by have := r.dp; omega, by have := r.un; omega⟩
theorem Room.deeper {k : Nat} {A : Around} (r : Room (k + 1) A) (env : Env) : Room k (A.deeper env) :=
  ⟨r.hd, by have := r.dp; show A.depth + 1 + 3 * k + 5 < _; omega, by have := r.un; show A.units + 3 + 16 * k + 200 < _; omega⟩
theorem Room.in1 {k : Nat} {A : Around} (r : Room (k + 1) A) : Room k A.in1 :=
  ⟨r.hd, by have := r.dp; show A.depth + 3 * k + 5 < _; omega, by have := r.un; show A.units + 1 + 16 * k + 200 < _; omega⟩
theorem Room.depth {k : Nat} {A : Around} (r : Room k A) : A.depth < recursionLimit := by have := r.dp; omega
theorem Room.units {k : Nat} {A : Around} (r : Room k A) : A.units + 64 < cLine := by have := r.un; omega
/-! ### argument lists and displays -/
def tNil : TA := fun _ H Q => Q [] H
def tCons (ta : TE) (tr : TA) : TA := fun σ H Q => ta σ H fun x H1 => tr σ H1 fun xs H2 => Q (x :: xs) H2
section
variable {X : Cx} {e : Expr} {es : List Expr} {te : TE} {t : TA} {pos : Pos}
theorem pa_nil : PA X [] tNil := fun _ _ _ _ H Q I h => Calls.spliced_nil ⟨[], H, I, .nil, h⟩
theorem pa_cons (ha : PE X e te) (hr : PA X es t) (hs : starEach (e :: es) X.env = (false, eval e X.env) :: starEach es X.env := by rfl) : PA X (e :: es) (tCons te t) := by
  intro pos pins s σ H Q I h
  rw [hs]
  show wpAny _ _ (spliced ((false, eval e X.env) :: backTo pos (starEach es X.env))) _ _ s
  refine Calls.spliced_cons (thn (ha pins s σ H _ I h) fun u s1 ⟨x, H1, I1, r1, q1⟩ => ?_)
  exact thn (hr pos pins s1 σ H1 _ I1 q1) fun us s2 ⟨xs, H2, I2, r2, q2⟩ => ⟨x :: xs, H2, I2, .cons r1 r2, q2⟩

/-- a tuple, a list of written items -/
def tTup (t : TA) : TE := fun σ H Q => t σ H fun xs H1 => xs.length ≤ sizeLine ∧ ∀ p, H1 p = none → Q (.ref p) (upd H1 p (.tup xs))
def tLst (t : TA) : TE := fun σ H Q => t σ H fun xs H1 => xs.length ≤ sizeLine ∧ ∀ p, H1 p = none → Q (.ref p) (upd H1 p (.lst xs))
theorem pe_tup {x1} (h : PA X es t) : PE X (.Tuple es x1 pos) (tTup t) := by
  intro pins s σ H Q I hq
  refine wpAny_Tuple_spliced (thn (h pos pins s σ H _ I hq) fun us s1 ⟨xs, H1, I1, r, z, q⟩ => ⟨by rw [← r.length]; exact z, ?_⟩)
  have hf : H1 s1.heap.objs.size = none := I1.hok.fresh (Nat.le_refl _)
  refine ⟨.ref s1.heap.objs.size, upd H1 s1.heap.objs.size (.tup xs), I1.laid (t' := s1.toks) (fun b u e => Heap.get?_push_of_some _ e) (Nat.le_refl _) ?_, rfl, q _ hf⟩
  exact ⟨z, us, r, ⟨_, Heap.get?_push_size _ rfl, rfl, rfl, _, rfl⟩⟩
theorem pe_lst (h : PA X es t) : PE X (.List es pos) (tLst t) := by
  intro pins s σ H Q I hq
  refine wpAny_List_spliced (thn (h pos pins s σ H _ I hq) fun us s1 ⟨xs, H1, I1, r, z, q⟩ => ⟨by rw [← r.length]; exact z, ?_⟩)
  have hf : H1 s1.heap.objs.size = none := I1.hok.fresh (Nat.le_refl _)
  refine ⟨.ref s1.heap.objs.size, upd H1 s1.heap.objs.size (.lst xs), I1.laid (t' := s1.toks) (fun b u e => Heap.get?_push_of_some _ e) (Nat.le_refl _) ?_, rfl, q _ hf⟩
  exact ⟨z, us, 0, r, Heap.get?_push_size _ rfl⟩
end

/-! ### what a def promises -/
/-- a def's promise: the bound arguments in the parameters' order, the heap, the wanted end, the wanted exception -/
abbrev Sp := List V → Hp → VK → XK → Prop
/-- how an exception lies behind a call (file 08 gives it): the callers' frames, abstract heap and state ahead of the call, the wish, the exception, the state -/
abbrev CXT := List Env → Hp → Shared → XK → Value → Shared → Prop

/-- the state at a call -/
structure Env0 (P : Program) (w : World) (K : PySem.W.Frag) (mg : Str → Option Value) (base : Heap) (A : Around) (outer : List Env) (s : Shared) (H : Hp) : Prop where
  frames : A.frames = some outer
  mod : Mod K mg base
  bs : ∀ b o, base.get? b = some o → s.heap.get? b = some o ∧ H b = none
  bsz : base.objs.size ≤ s.heap.objs.size
  funs : s.heap.FunFrames base outer
  frf : ∀ b ∈ frs outer, H b = none
  hok : HOk P w H s.heap
  bare : AllBare s.gens
/-- a call's end -/
def CE (outer : List Env) (P : Program) (w : World) (H : Hp) (s : Shared) (Q : VK) (u : Value) (s' : Shared) : Prop :=
  ∃ v H', s'.os = s.os ∧ AllBare s'.gens ∧ Un (frs outer) [] H H' s.heap s'.heap ∧ HOk P w H' s'.heap ∧ RelV v u ∧ Q v H'
def CR (CX : CXT) (outer : List Env) (P : Program) (w : World) (H : Hp) (s : Shared) (Q : VK) (E : XK) (r : Result) (s' : Shared) : Prop :=
  match r with
  | .ok (.ret u) => CE outer P w H s Q u s'
  | .ok _ => False
  | .error e => CX outer H s E e s'
structure FnOk (P : Program) (w : World) (K : PySem.W.Frag) (mg : Str → Option Value) (base : Heap) (CX : CXT) (k : Nat) (f : Addr) (fd : FuncData) (ps : List Str) (sp : Sp) : Prop where
  len : ∀ vs H Q E, sp vs H Q E → vs.length = ps.length
  run : ∀ (A : Around) (outer : List Env) (s : Shared) (H : Hp) (args : Args) (us : List Value) (vs : List V) (Q : VK) (E : XK), Room k A → Env0 P w K mg base A outer s H → BindsTo s fd args (ps.zip us) → Vals vs us → sp vs H Q E →
    codeAny (model P w) A (.call (.ref f) args) (CR CX outer P w H s Q E) s
theorem FnOk.mono {P : Program} {w : World} {K : PySem.W.Frag} {mg : Str → Option Value} {base : Heap} {CX : CXT} {j k : Nat} {f : Addr} {fd : FuncData} {ps : List Str} {sp : Sp} (F : FnOk P w K mg base CX j f fd ps sp) (h : j ≤ k) :
    FnOk P w K mg base CX k f fd ps sp := ⟨F.len, fun A outer s H args us vs Q E hr => F.run A outer s H args us vs Q E (hr.mono h)⟩
/-- a weaker promise -/
theorem FnOk.imp {P : Program} {w : World} {K : PySem.W.Frag} {mg : Str → Option Value} {base : Heap} {CX : CXT} {k : Nat} {f : Addr} {fd : FuncData} {ps : List Str} {sp sp' : Sp} (F : FnOk P w K mg base CX k f fd ps sp)
    (h : ∀ vs H Q E, sp' vs H Q E → sp vs H Q E) : FnOk P w K mg base CX k f fd ps sp' :=
  ⟨fun vs H Q E q => F.len vs H Q E (h _ _ _ _ q), fun A outer s H args us vs Q E hr he hb hv hs => F.run A outer s H args us vs Q E hr he hb hv (h _ _ _ _ hs)⟩

theorem Env0.in1 {P : Program} {w : World} {K : PySem.W.Frag} {mg : Str → Option Value} {base : Heap} {A : Around} {outer : List Env} {s : Shared} {H : Hp} (e : Env0 P w K mg base A outer s H) :
    Env0 P w K mg base A.in1 outer s H := ⟨e.frames, e.mod, e.bs, e.bsz, e.funs, e.frf, e.hok, e.bare⟩

section
variable {X : Cx} {pins : List (Addr × Obj)} {σ : St} {H : Hp} {s s' : Shared}
/-- from a body: what a callee wants -/
theorem Inv.env0 (I : Inv X pins σ H s) : Env0 X.prog X.w X.K X.mg X.base X.A X.stack s H :=
  ⟨I.ok.frames, I.ok.mod, I.bs, Nat.le_trans I.ok.bsz I.sz, I.stack, I.stkFree, I.hok, I.bare⟩
/-- behind a call -/
theorem Inv.after {Q : VK} {u : Value} (I : Inv X pins σ H s) (h : CE X.stack X.prog X.w H s Q u s') : EP X pins σ Q u s' := by
  obtain ⟨v, H', os, bare, un, hok, r, q⟩ := h
  obtain ⟨hh, g, d, t, os'⟩ := s'
  obtain rfl : os' = s.os := os
  exact ⟨v, H', I.call (h' := hh) (g' := g) (d' := d) (t' := t) (ch := []) un hok bare (fun b z => absurd z (by simp)), r, q⟩
end

/-! ### calls -/
/-- f(..): the written arguments, then the defaults dvs; E: what is wanted of an exception -/
def tCall (sp : Sp) (dvs : List V) (E : XK) (t : TA) : TE := fun σ H Q => t σ H fun vs H1 => sp (vs ++ dvs) H1 Q E
/-- o.m(..) of an instance of the class at C -/
def tMeth (C : Addr) (m : Str) (sp : Sp) (dvs : List V) (E : XK) (ta : TE) (t : TA) : TE := fun σ H Q => ta σ H fun x H1 => ∃ a dx fs, x = .ref a ∧ H1 a = some (.ins C dx fs) ∧ fs.lookup m = none ∧
  t σ H1 fun vs H2 => sp (x :: (vs ++ dvs)) H2 Q E
/-- C(..): a new instance and its dict, then __init__ -/
def tMake (C : Addr) (sp : Sp) (dvs : List V) (E : XK) (t : TA) : TE := fun σ H Q => t σ H fun vs H1 => ∀ x dx, H1 x = none → H1 dx = none → dx ≠ x →
  sp (.ref x :: (vs ++ dvs)) (upd (upd H1 dx (.own x)) x (.ins C dx [])) (fun v H2 => v = .non ∧ Q (.ref x) H2) E

/-- how the parameters are bound: us the positional arguments, kw the keywords' values by name, ds the defaults that fill up -/
def Binds (K : PySem.W.Frag) (fd : FuncData) (ps : List Str) (ds : List Value) : Prop :=
  ∀ (s : Shared) (us : List Value), K.In s.heap → (us ++ ds).length = ps.length → BindsTo s fd ⟨us, []⟩ (ps.zip (us ++ ds))
/-- every parameter is given -/
theorem Binds.all {K : PySem.W.Frag} {fd : FuncData} {ps : List Str} (h : ∀ us : List Value, us.length = ps.length → bindArgs fd ⟨us, []⟩ = pure (ps.zip us)) : Binds K fd ps [] := fun s us _ hl => by
  rw [List.append_nil] at hl ⊢
  exact .of_eq (h us hl)

/-- an exception of a callee reaches what this body wants of exceptions -/
def Passes (CX : CXT) (X : Cx) (E : XK) : Prop := ∀ (pins : List (Addr × Obj)) (σ : St) (H : Hp) (s : Shared) (e : Value) (s' : Shared), Inv X pins σ H s → CX X.stack H s E e s' → X.xe e s'

section
variable {X : Cx} {CX : CXT} {k : Nat} {f C : Addr} {fd : FuncData} {ps : List Str} {sp : Sp} {dvs : List V} {ds : List Value} {E : XK} {x m : Str} {p pos apos : Pos} {e o : Expr} {es : List Expr} {ta : TE} {t : TA}

/-- the callee runs -/
theorem run_fn {pins : List (Addr × Obj)} {σ : St} {H : Hp} {s : Shared} {Q : VK} {us : List Value} {vs : List V} (F : FnOk X.prog X.w X.K X.mg X.base CX k f fd ps sp) (hr : Room k X.A) (hb : Binds X.K fd ps ds) (hd : Vals dvs ds) (hx : Passes CX X E)
    (I : Inv X pins σ H s) (r : Vals vs us) (h : sp (vs ++ dvs) H Q E) : wpAny (model X.prog X.w) X.A (call (.ref f) us) (EP X pins σ Q) X.xe s := by
  have r2 : Vals (vs ++ dvs) (us ++ ds) := r.append hd
  have hl : (us ++ ds).length = ps.length := by rw [← r2.length]; exact F.len _ _ _ _ h
  refine wpAny_call (codeAny_mono (F.run X.A X.stack s H ⟨us, []⟩ (us ++ ds) (vs ++ dvs) Q E hr I.env0 (hb s us I.kIn hl) r2 h) fun r s' hq => ?_)
  cases r with
  | error e => exact hx pins σ H s e s' I hq
  | ok fl =>
    cases fl with
    | ret u => exact I.after hq
    | next => exact False.elim hq
    | brk => exact False.elim hq
    | cont => exact False.elim hq

theorem pe_call (F : FnOk X.prog X.w X.K X.mg X.base CX k f fd ps sp) (hr : Room k X.A) (hg : Gl X x) (hm : X.mg x = some (.ref f)) (hk : PySem.W.keepIn X.K (.ref f) = true) (hb : Binds X.K fd ps ds) (hd : Vals dvs ds) (hx : Passes CX X E)
    (ha : PA X (e :: es) t) (hdb : (x == ("__debug__" : Str)) = false := by decide) (he : starEach (e :: es) X.env = (false, eval e X.env) :: starEach es X.env := by rfl) (hpl : (backTo pos (starEach es X.env)).any (·.1) = false := by rfl) :
    PE X (.Call (.Name x p) (e :: es) [] pos) (tCall sp dvs E t) := by
  intro pins s σ H Q I h
  refine wpAny_Call_Name_kw (ld_glob I hg hm ?_ hdb)
  refine PySem.W.callWith_K (h₀ := X.base) I.ok.mod.kin hk (thn (ha pos pins s σ H _ I h) fun us s1 ⟨vs, H1, I1, r, q⟩ => ⟨I1.kIn, ?_⟩) he hpl
  exact run_fn F hr hb hd hx I1 r q
/-- what a class must have to be made -/
structure Mk (K : PySem.W.Frag) (C f : Addr) : Prop where
  makes : PySem.W.makesIn K C = true
  init : PySem.W.findIn K (.ref C) "__init__" = some (some (.ref f))
  fn : PySem.W.isFn K (.ref f) = true
  kp : PySem.W.keepIn K (.ref C) = true

end

/-! ### keywords -/
/-- the values of the keywords, from the left -/
def PK (X : Cx) (kws : List Keyword) (t : TA) : Prop :=
  ∀ (pos : Pos) (pins : List (Addr × Obj)) (s : Shared) (σ : St) (H : Hp) (Q : List V → Hp → Prop), Inv X pins σ H s → t σ H Q → wpAny (model X.prog X.w) X.A (evalAll ((backToKw pos (keywordEach kws X.env)).map (·.2))) (AP X pins σ Q) X.xe s
section
variable {X : Cx} {CX : CXT} {k : Nat} {f C : Addr} {fd : FuncData} {ps ks : List Str} {sp : Sp} {E : XK} {x m : Str} {p pos apos kpos : Pos} {e o : Expr} {es : List Expr} {kws : List Keyword} {te ta : TE} {t tk : TA} {nm : Option Str}
/-- how a call with keywords binds: g puts the positional values us and the keywords' values ws (names ks) in the parameters' order, defaults among them -/
structure KBinds (K : PySem.W.Frag) (fd : FuncData) (ps ks : List Str) (g : List Value → List Value → List Value) (gV : List V → List V → List V) : Prop where
  to : ∀ (s : Shared) (us ws : List Value), K.In s.heap → (g us ws).length = ps.length → BindsTo s fd ⟨us, ks.zip ws⟩ (ps.zip (g us ws))
  rel : ∀ {vs : List V} {us : List Value} {zs : List V} {ws : List Value}, Vals vs us → Vals zs ws → Vals (gV vs zs) (g us ws)
def tCallK (sp : Sp) (gV : List V → List V → List V) (E : XK) (t tk : TA) : TE := fun σ H Q => t σ H fun vs H1 => tk σ H1 fun zs H2 => sp (gV vs zs) H2 Q E
variable {g : List Value → List Value → List Value} {gV : List V → List V → List V}
end

/-! ### a def's body keeps its promise -/
/-- names: the parameters first -/
structure FnScope (N P : List Str) (sc : Scope) : Prop where
  kind : sc.kind = .function
  co : sc.isCoroutine = false
  gen : sc.isGenerator = false
  nd : N.Nodup
  pre : N.take P.length = P
  par : ∀ x ∈ P, sc.names.lookup x = some .local ∨ sc.names.lookup x = some .cell
  nofree : ∀ y ∈ sc.names, y.2 ≠ .free

theorem bindL_out {kindOf : Str → Option NameKind} {x : Str} : ∀ {binds : List (Str × Value)} {m : Str → Option Value}, (∀ v, (x, v) ∉ binds) → bindL kindOf binds m x = m x
  | [], _, _ => rfl
  | (n, v) :: r, m, h => by
    unfold bindL
    rw [bindL_out fun w hw => h w (List.mem_cons_of_mem _ hw)]
    split
    · have : x ≠ n := by rintro rfl; exact h v List.mem_cons_self
      simp [this]
    · rfl
theorem bindC_out {kindOf : Str → Option NameKind} {x : Str} : ∀ {binds : List (Str × Value)} {m : Str → Option Value}, (∀ v, (x, v) ∉ binds) → bindC kindOf binds m x = m x
  | [], _, _ => rfl
  | (n, v) :: r, m, h => by
    unfold bindC
    rw [bindC_out fun w hw => h w (List.mem_cons_of_mem _ hw)]
    split
    · rfl
    · have : x ≠ n := by rintro rfl; exact h v List.mem_cons_self
      simp [this]
theorem bindL_get {kindOf : Str → Option NameKind} {x : Str} {v : Value} : ∀ {P : List Str} {vs : List Value} {i : Nat} {m : Str → Option Value}, P.Nodup → P[i]? = some x → vs[i]? = some v → kindOf x = some .local →
    bindL kindOf (P.zip vs) m x = some v
  | [], _, _, _, _, h, _, _ => by simp at h
  | _ :: _, [], _, _, _, _, h, _ => by simp at h
  | p :: P, w :: vs, 0, m, nd, h1, h2, hk => by
    simp at h1 h2; subst h1; subst h2
    show bindL kindOf ((p, w) :: P.zip vs) m p = _
    unfold bindL
    rw [bindL_out fun v hv => (List.nodup_cons.mp nd).1 (List.of_mem_zip hv).1, if_pos hk]
    simp
  | p :: P, w :: vs, i + 1, m, nd, h1, h2, hk => by
    show bindL kindOf ((p, w) :: P.zip vs) m x = _
    unfold bindL
    exact bindL_get (i := i) (List.nodup_cons.mp nd).2 (by simpa using h1) (by simpa using h2) hk
theorem bindC_get {kindOf : Str → Option NameKind} {x : Str} {v : Value} : ∀ {P : List Str} {vs : List Value} {i : Nat} {m : Str → Option Value}, P.Nodup → P[i]? = some x → vs[i]? = some v → kindOf x ≠ some .local →
    bindC kindOf (P.zip vs) m x = some v
  | [], _, _, _, _, h, _, _ => by simp at h
  | _ :: _, [], _, _, _, _, h, _ => by simp at h
  | p :: P, w :: vs, 0, m, nd, h1, h2, hk => by
    simp at h1 h2; subst h1; subst h2
    show bindC kindOf ((p, w) :: P.zip vs) m p = _
    unfold bindC
    rw [bindC_out fun v hv => (List.nodup_cons.mp nd).1 (List.of_mem_zip hv).1, if_neg hk]
    simp
  | p :: P, w :: vs, i + 1, m, nd, h1, h2, hk => by
    show bindC kindOf ((p, w) :: P.zip vs) m x = _
    unfold bindC
    exact bindC_get (i := i) (List.nodup_cons.mp nd).2 (by simpa using h1) (by simpa using h2) hk

/-- the names' values at the entry -/
def start (N : List Str) (vs : List V) : St := vs.map some ++ List.replicate (N.length - vs.length) none

/-- the context of a def's body, at its entry; an exception leaves the frame, then lies as CX says -/
def cxOf (CX : CXT) (P : Program) (w : World) (K : PySem.W.Frag) (mg : Str → Option Value) (base : Heap) (N : List Str) (qual : Str) (scope : Scope) (f : Addr) (cd : Value) (A : Around) (outer : List Env) (s : Shared) (H : Hp) (E : XK) : Cx where
  prog := P
  w := w
  K := K
  mg := mg
  base := base
  A := A.deeper (envOfC qual scope s.heap.objs.size f cd)
  N := N
  s₀ := s
  H₀ := H
  env := envOfC qual scope s.heap.objs.size f cd
  outer := outer
  stack := envOfC qual scope s.heap.objs.size f cd :: outer
  ex := []
  calm := true
  fn := fun _ => true
  pn := []
  xe := fun e s' => wpAny (model P w) (A.deeper (envOfC qual scope s.heap.objs.size f cd)) (leaving (envOfC qual scope s.heap.objs.size f cd) e) (fun _ s'' => CX outer H s E e s'') (fun e' s'' => CX outer H s E e' s'') s'

theorem cell_has {sc : Scope} {n : Nat} {x : Str} (h : sc.names.lookup x = some .cell) : ∃ c, (cellsFrom n sc.names []).lookup x = some c := by
  have q := PySem.W.cellsFrom_some sc.names n [] (.inl h)
  exact Option.isSome_iff_exists.mp q

theorem inv_start {CX : CXT} {P : Program} {w : World} {K : PySem.W.Frag} {mg : Str → Option Value} {base : Heap} {N ps : List Str} {qual : Str} {scope : Scope} {f : Addr} {cd : Value} {A : Around} {outer : List Env} {s s1 : Shared} {H : Hp} {E : XK} {us : List Value} {vs : List V}
    (S : FnScope N ps scope) (hd : A.handled = none) (e0 : Env0 P w K mg base A outer s H) (hl : vs.length = ps.length) (r : Vals vs us)
    (x : InCallC s s.heap.objs.size (bindL (envOfC qual scope s.heap.objs.size f cd).kindOf (ps.zip us) fun _ => none) (cellsFrom (s.heap.objs.size + 1) scope.names []) (bindC (envOfC qual scope s.heap.objs.size f cd).kindOf (ps.zip us) fun _ => none) s1) :
    Inv (cxOf CX P w K mg base N qual scope f cd A outer s H E) [] (start N vs) H s1 := by
  have hpl : ps.length ≤ N.length := by have := congrArg List.length S.pre; rw [List.length_take] at this; omega
  obtain ⟨h1, tk, rfl, hk⟩ := x.done
  have noA : ∀ b : Addr, b ∉ (cxOf CX P w K mg base N qual scope f cd A outer s H E).ex := fun b z => absurd (show b ∈ ([] : List Addr) from z) (by simp)
  refine ⟨⟨e0.mod, S.kind, rfl, rfl, Nat.le_refl _, fun y z c h1 h2 => ?_, fun y hy => ?_, fun y c _ h => ?_, fun _ => hd, Around.frames_deeper e0.frames, .inr ⟨rfl, rfl⟩, fun b z => absurd z (noA b), e0.bs, e0.bsz, fun b _ _ => noA b, fun b z => absurd z (noA b), e0.funs, e0.frf⟩,
    rfl, e0.bare, Un.kept hk, ⟨_, x.toInCall.ns, fun i y v h1 h2 h3 => ?_⟩, fun y c h => ⟨_, x.cell y c h⟩, e0.hok.fresh (Nat.le_refl _), fun y c h => ?_, fun p hp => absurd (show p ∈ ([] : List (Addr × Obj)) from hp) (by simp), e0.hok.kept hk, ?_⟩
  · exact name_of_addr x.apart (PySem.mem_of_lookup h1) (PySem.mem_of_lookup h2)
  · have hy : scope.names.lookup y = some .cell ∨ scope.names.lookup y = some .free := hy
    rcases hy with hy | hy
    · exact cell_has hy
    · exact absurd rfl (S.nofree _ (PySem.mem_of_lookup hy))
  · exact Nat.le_of_lt (x.above y c (PySem.mem_of_lookup h))
  · have hi : i < vs.length := by
      unfold start at h2
      by_cases hi : i < vs.length
      · exact hi
      · rw [List.getElem?_append_right (by simpa using hi)] at h2
        rw [List.getElem?_replicate] at h2
        split at h2 <;> cases h2
    have ha : vs[i]? = some v := by
      unfold start at h2
      rw [List.getElem?_append_left (by simpa using hi), List.getElem?_map] at h2
      cases e : vs[i]? with
      | none => rw [e] at h2; cases h2
      | some a => rw [e] at h2; cases h2; rfl
    obtain ⟨u, hu, rv⟩ := r.get ha
    have hp : ps[i]? = some y := by
      rw [← S.pre, List.getElem?_take_of_lt (by omega)]; exact h1
    have ndP : ps.Nodup := by rw [← S.pre]; exact S.nd.sublist (List.take_sublist _ _)
    refine ⟨u, rv, ?_⟩
    rcases S.par y (List.mem_of_getElem? hp) with k | k
    · exact .inl ⟨k, bindL_get ndP hp hu k⟩
    · obtain ⟨c, e⟩ := cell_has (n := s.heap.objs.size + 1) k
      refine .inr ⟨.inl k, c, e, ?_⟩
      have q := x.cell y c e
      rw [bindC_get ndP hp hu (by show scope.names.lookup y ≠ _; rw [k]; decide)] at q
      exact q
  · exact e0.hok.fresh (Nat.le_of_lt (x.above y c (PySem.mem_of_lookup h)))
  · unfold start
    show _ = N.length
    rw [List.length_append, List.length_map, List.length_replicate]
    omega

/-- THE RULE: a def (or a method) of the text, by its body. The body's reading t is chosen for each entry; it is run at the parameters' values -/
theorem fn_of {CX : CXT} {P : Program} {w : World} {K : PySem.W.Frag} {mg : Str → Option Value} {base : Heap} {k : Nat} {f : Addr} {name qual : Str} {params : Arguments} {body : List Stmt} {scope : Scope} {dV kV doc pm cdv ct oc : Value} {an od : Option Addr}
    {osl : Array (Option Value)} {N ps : List Str} {sp : Sp} (lk : K.lookup f = some ⟨oc, od, .func (PySem.W.fnOf name qual params body scope dV kV doc pm an cdv ct), osl⟩) (hcd : PySem.W.codeIn K cdv qual = true) (S : FnScope N ps scope)
    (len : ∀ vs H Q E, sp vs H Q E → vs.length = ps.length)
    (hbody : ∀ (A : Around) (outer : List Env) (s : Shared) (H : Hp) (vs : List V) (Q : VK) (E : XK), Room k (A.deeper (envOfC qual scope s.heap.objs.size f cdv)) → sp vs H Q E →
      ∃ t, PSs (cxOf CX P w K mg base N qual scope f cdv A outer s H E) body t ∧ t { nx := fun _ H' => Q .non H', rt := Q } (start N vs) H) :
    FnOk P w K mg base CX (k + 1) f (PySem.W.fnOf name qual params body scope dV kV doc pm an cdv ct) ps sp := by
  refine ⟨len, fun A outer s H args us vs Q E hr e0 hb r hsp => ?_⟩
  have hl := len _ _ _ _ hsp
  have KX : K.In s.heap := e0.mod.kin.keeps fun b o e => (e0.bs b o e).1
  have lim : s.heap.NoLimit := e0.mod.nolimit.keeps fun b o e => (e0.bs b o e).1
  have hkind : ∀ y ∈ ps.zip us, scope.names.lookup y.1 = some .local ∨ (scope.names.lookup y.1 = some .cell ∧ ((cellsFrom (s.heap.objs.size + 1) scope.names []).lookup y.1).isSome = true) := fun ⟨n, v⟩ hy => by
    rcases S.par n (List.of_mem_zip hy).1 with q | q
    · exact .inl q
    · exact .inr ⟨q, PySem.W.cellsFrom_some _ _ _ (.inl q)⟩
  refine codeAny_call_function hr.depth (KX _ _ lk) rfl S.co S.gen rfl (PySem.W.codeRec_of KX hcd) (hb _ _ _ _ ?_)
  refine wpAny_newFunctionEnv_cells S.kind hkind fun env he s1 x => ?_
  subst he
  refine ⟨lim.keeps x.toInCall.keep, codeAny_func ?_⟩
  obtain ⟨t, ht, hq⟩ := hbody A outer s H vs Q E (hr.deeper _) hsp
  have I : Inv (cxOf CX P w K mg base N qual scope f cdv A outer s H E) [] (start N vs) H s1 := inv_start S hr.hd e0 hl r x
  refine wpAny_mono (ht [] s1 (start N vs) H _ I hq) (fun fl s' hs => ?_) fun e s' hs => hs
  have fin : ∀ {σ' : St} {H' : Hp} {v : V} {u : Value}, Inv (cxOf CX P w K mg base N qual scope f cdv A outer s H E) [] σ' H' s' → RelV v u → Q v H' → CE outer P w H s Q u s' :=
    fun {σ' H' v u} J rv q => ⟨v, H', J.os, J.bare, J.base, J.hok, rv, q⟩
  cases fl with
  | ret u =>
    obtain ⟨v, σ', H', J, rv, q⟩ := hs
    exact fin J rv q
  | next =>
    obtain ⟨σ', H', J, q⟩ := hs
    exact fin (v := V.non) (u := Value.none) J rfl q
  | brk =>
    obtain ⟨_, _, _, q⟩ := hs
    exact False.elim q
  | cont =>
    obtain ⟨_, _, _, q⟩ := hs
    exact False.elim q
end L2

namespace L2
open PySem PySem.Spec PyProof.Rows
section
variable {X : Cx} {x : Str} {p pos : Pos} {e : Expr} {es : List Expr} {t : TA} {id T : String} {r : List V → Hp → VK → Prop}

def tCB (r : List V → Hp → VK → Prop) (t : TA) : TE := fun σ H Q => t σ H fun vs H1 => r vs H1 Q
/-- f(e, ..), f a built-in function -/
theorem pe_callB (hc : CallR X (.builtin id) r) (hg : Gl X x) (hm : X.mg x = none) (hv : bootBuiltins x = some (.builtin id)) (ha : PA X (e :: es) t) (hn : x ≠ "__name__" := by decide) (hdb : (x == ("__debug__" : Str)) = false := by decide)
    (he : starEach (e :: es) X.env = (false, eval e X.env) :: starEach es X.env := by rfl) (hpl : (backTo pos (starEach es X.env)).any (·.1) = false := by rfl) : PE X (.Call (.Name x p) (e :: es) [] pos) (tCB r t) := by
  intro pins s σ H Q I h
  refine wpAny_Call_Name_kw (ld_blt I hg hm hv ?_ hn hdb)
  exact PyProof.Rows.callWith_builtin1 (thn (ha pos pins s σ H _ I h) fun us s1 ⟨vs, H1, I1, r1, q1⟩ => hc pins s1 σ H1 vs us Q I1 r1 q1) he hpl
/-- T(e, ..), T a built-in type -/
theorem pe_callTy (hc : CallR X (.type T) r) (hg : Gl X x) (hm : X.mg x = none) (hv : bootBuiltins x = some (.type T)) (ha : PA X (e :: es) t) (hn : x ≠ "__name__" := by decide) (hdb : (x == ("__debug__" : Str)) = false := by decide)
    (he : starEach (e :: es) X.env = (false, eval e X.env) :: starEach es X.env := by rfl) (hpl : (backTo pos (starEach es X.env)).any (·.1) = false := by rfl) : PE X (.Call (.Name x p) (e :: es) [] pos) (tCB r t) := by
  intro pins s σ H Q I h
  refine wpAny_Call_Name_kw (ld_blt I hg hm hv ?_ hn hdb)
  exact PyProof.Rows.callWith_type1 (thn (ha pos pins s σ H _ I h) fun us s1 ⟨vs, H1, I1, r1, q1⟩ => hc pins s1 σ H1 vs us Q I1 r1 q1) he hpl
end
end L2

namespace HT
open PySem PyProof.Rows

/-- t < u of tuples of ints -/
def lexLt : List Int → List Int → Bool
  | [], [] => false
  | [], _ :: _ => true
  | _ :: _, [] => false
  | x :: xs, y :: ys => if x = y then lexLt xs ys else decide (x < y)
section
open PySem.SeqAt
open PySem.AutoSeq1 (wpAny_loadPart')
open PySem.MeetsSeq PySem.MeetsSeq2 PySem.MeetsSeq3

end

section
variable {prog : Program} {w : World} {A : Around} {E : Value → Shared → Prop} {s : Shared}

/-- t + u, t not empty -/
theorem cat_tup {t b : Addr} {vs ws : List Value} {Q : Value → Shared → Prop} (ht : IsTup s.heap t vs.toArray) (hb : IsTup s.heap b ws.toArray) (hv : vs ≠ [])
    (h1 : ws = [] → Q (.ref t) s) (h2 : ws ≠ [] → Q (.ref s.heap.objs.size) { s with heap := s.heap.push { cls := .type "tuple", data := .seq (vs ++ ws).toArray } })
    (hsz : vs.length + ws.length ≤ sizeLine) : wpAny (model prog w) A (binaryOp .Add (.ref t) (.ref b)) Q E s := by
  obtain ⟨⟨cls, dd, data, sl⟩, ho, hc, n, hd⟩ := id ht
  obtain ⟨⟨cls2, dd2, data2, sl2⟩, ho2, hc2, n2, hd2⟩ := id hb
  simp only at hc hd hc2 hd2
  subst hc hd hc2 hd2
  have e : vs.toArray ++ ws.toArray = (vs ++ ws).toArray := by simp
  by_cases hw : ws = []
  · exact concat_meets ⟨_, ho, rfl⟩ ⟨_, ho2, rfl⟩ noFill_tuple_add seq_tuple_add PySem.F.slot_tuple_add PySem.F.entry_tuple_add (PySem.F.args_tuple_add_2 _ _)
      (tuple_addW1 t b vs.toArray ws.toArray n n2 dd dd2 sl sl2 (by simpa using hv) (by simp [hw])) ⟨ho, ho2, h1 hw⟩
  · refine concat_meets ⟨_, ho, rfl⟩ ⟨_, ho2, rfl⟩ noFill_tuple_add seq_tuple_add PySem.F.slot_tuple_add PySem.F.entry_tuple_add (PySem.F.args_tuple_add_2 _ _)
      (tuple_addW2 t b vs.toArray ws.toArray n n2 dd dd2 sl sl2 (by simpa using hv) (by simpa using hw) (by rw [List.size_toArray, List.size_toArray]; exact hsz)) ⟨ho, ho2, ?_⟩
    rw [e]
    exact h2 hw

/-! ### t[a:b], not the whole -/
/-- a slice's bound as a place among n (d where it is left out) -/
def sIx (n d : Nat) : Option Int → Nat
  | none => d
  | some v => if v < 0 then (v + (n : Int)).toNat else min v.toNat n
theorem sIx_none (n d : Nat) : sIx n d none = d := rfl
theorem sIx_nat (n d k : Nat) : sIx n d (some (k : Int)) = min k n := by
  show (if (k : Int) < 0 then ((k : Int) + (n : Int)).toNat else min (k : Int).toNat n) = min k n
  rw [if_neg (by omega), Int.toNat_natCast]
theorem sIx_le (n d : Nat) (hd : d ≤ n) (o : Option Int) : sIx n d o ≤ n := by
  cases o with
  | none => exact hd
  | some v =>
    show (if v < 0 then (v + (n : Int)).toNat else min v.toNat n) ≤ n
    by_cases hv : v < 0
    · rw [if_pos hv]; omega
    · rw [if_neg hv]; exact Nat.min_le_right _ _
theorem clip_eq (v : Int) (n d : Nat) : (if v < 0 then max (v + (n : Int)) 0 else min v (n : Int)) = ((sIx n d (some v) : Nat) : Int) := by
  show (if v < 0 then max (v + (n : Int)) 0 else min v (n : Int)) = (((if v < 0 then (v + (n : Int)).toNat else min v.toNat n) : Nat) : Int)
  by_cases hv : v < 0
  · simp only [if_pos hv]; omega
  · simp only [if_neg hv]; omega
theorem adjust_gen (lo hi : Option Int) (n : Nat) : Builtin.Slice.sliceAdjust lo hi 1 (n : Int) = (((sIx n 0 lo : Nat) : Int), ((sIx n n hi : Nat) : Int)) := by
  have h1 : ¬ ((1 : Int) < 0) := by omega
  unfold Builtin.Slice.sliceAdjust
  simp only [h1, if_false]
  refine Prod.ext ?_ ?_
  · cases lo with
    | none => rfl
    | some v => exact clip_eq v n 0
  · cases hi with
    | none => rfl
    | some v => exact clip_eq v n n
theorem places_gen (i j : Nat) : Builtin.Slice.slicePlaces (i : Int) (j : Int) 1 = j - i := by
  unfold Builtin.Slice.slicePlaces
  have h1 : (1 : Int) > 0 := by omega
  simp only [h1, if_true, Int.ediv_one]
  split <;> omega
theorem slicePart_ {v : Value} {o : Option Int} {Q : Option Int → Shared → Prop} (p : IsPart v o) (h : Q o s) : wpAny (model prog w) A (Builtin.Slice.slicePartIndex v) Q E s := by
  cases p with
  | none => exact slicePart_none h
  | int i t => exact slicePart_int h
theorem sliceApplied_gen {sl : Addr} {vl vu : Value} {lo hi : Option Int} {n : Nat} {Q : Int × Int × Nat → Shared → Prop} (hs : s.heap.IsSliceOf sl vl vu .none) (pl : IsPart vl lo) (pu : IsPart vu hi)
    (h : Q (((sIx n 0 lo : Nat) : Int), 1, sIx n n hi - sIx n 0 lo) s) : wpAny (model prog w) A (Builtin.Slice.sliceApplied (.ref sl) (pure (n : Int))) Q E s := by
  obtain ⟨os, hos, hcs, hds⟩ := id hs
  unfold Builtin.Slice.sliceApplied Builtin.Slice.sliceFields
  refine wpAny_bind (wpAny_bind (wpAny_field hos hds (x := vl) rfl (wpAny_bind (wpAny_field hos hds (x := vu) rfl (wpAny_bind (wpAny_field hos hds (x := .none) rfl (wpAny_pure ?_)))))))
  refine wpAny_bind (slicePart_none ?_)
  show wpAny _ _ (if ((1 : Int) == 0) = true then _ else _) _ _ s
  rw [if_neg (by decide)]
  refine wpAny_bind (slicePart_ pl (wpAny_bind (slicePart_ pu (wpAny_bind (wpAny_pure ?_)))))
  show wpAny _ _ (match Builtin.Slice.sliceAdjust lo hi 1 (n : Int) with | (lo, hi) => pure (lo, (1 : Int), Builtin.Slice.slicePlaces lo hi 1)) _ _ s
  rw [adjust_gen lo hi n]
  show wpAny _ _ (pure (((sIx n 0 lo : Nat) : Int), (1 : Int), Builtin.Slice.slicePlaces ((sIx n 0 lo : Nat) : Int) ((sIx n n hi : Nat) : Int) 1)) _ _ s
  rw [places_gen]
  exact wpAny_pure h
theorem pick_gen (xs : Array Value) (i k : Nat) : ((List.range k).filterMap fun (m : Nat) => xs[((i : Int) + (m : Int) * 1).toNat]?).toArray = ((xs.toList.drop i).take k).toArray := by
  have e : (fun (m : Nat) => xs[((i : Int) + (m : Int) * 1).toNat]?) = fun m => xs[i + m]? := by
    funext m
    have : ((i : Int) + (m : Int) * 1).toNat = i + m := by omega
    rw [this]
  rw [e]
  have := pick_run xs i k
  rw [List.filterMap_map] at this
  have e2 : ((fun x => xs[x]?) ∘ fun x => i + x) = fun m => xs[i + m]? := rfl
  rw [e2] at this
  rw [this]

theorem getItem_tuple_cut {t sl : Addr} {items : Array Value} {vl vu : Value} {lo hi : Option Int} {Q : Value → Shared → Prop} (ht : IsTup s.heap t items) (hs : s.heap.IsSliceOf sl vl vu .none) (pl : IsPart vl lo) (pu : IsPart vu hi)
    (hw : ¬ (sIx items.size 0 lo = 0 ∧ sIx items.size items.size hi = items.size))
    (h : Q (.ref s.heap.objs.size) { s with heap := s.heap.push { cls := .type "tuple", data := .seq ((items.toList.drop (sIx items.size 0 lo)).take (sIx items.size items.size hi - sIx items.size 0 lo)).toArray } })
    (hsz : items.size ≤ sizeLine) : wpAny (model prog w) A (getItem (.ref t) (.ref sl)) Q E s := by
  have htake : sizeOk (.seq ((items.toList.drop (sIx items.size 0 lo)).take (sIx items.size items.size hi - sIx items.size 0 lo)).toArray) := by
    show ((items.toList.drop (sIx items.size 0 lo)).take (sIx items.size items.size hi - sIx items.size 0 lo)).toArray.size ≤ sizeLine
    rw [List.size_toArray, List.length_take, List.length_drop, Array.length_toList]
    omega
  have hj : sIx items.size items.size hi ≤ items.size := sIx_le _ _ (Nat.le_refl _) hi
  obtain ⟨os, hos, hcs, hds⟩ := id hs
  have hTs : s.TypeIs (.ref sl) "slice" := ⟨os, hos, hcs⟩
  unfold getItem
  try with_reducible refine wpAny_holding ?_
  first | refine wpAny_bind (wpAny_pure ?_) | skip
  refine wpAny_bind (wpAny_sequenceKey ht.typeIs (by decide) ?_)
  refine wpAny_bind (wpAny_callSpecial?_slot (name := Str.ofString "__getitem__") ht.typeIs PyProof.Rows.slot_tuple_getitem
    (wpAny_call_entry PyProof.Rows.slot_tuple_getitem ht.typeIs entry_tuple_getitem ?_ (args_tuple_getitem _ _)))
  show wpAny _ _ (Builtin.Tuple.tupleItemsOf (.ref t) >>= _) _ _ s
  refine wpAny_bind (tupleItemsOf_ ht ?_)
  refine wpAny_bind (wpAny_typeOf hTs ?_)
  rw [if_pos (by decide)]
  refine wpAny_bind (sliceApplied_gen hs pl pu ?_)
  have hno : ¬ ((((sIx items.size 0 lo : Nat) : Int) == 0 && (1 : Int) == 1 && (sIx items.size items.size hi - sIx items.size 0 lo) == items.size) = true) := by
    intro q
    rw [Bool.and_eq_true, Bool.and_eq_true] at q
    have q1 : ((sIx items.size 0 lo : Nat) : Int) = 0 := eq_of_beq q.1.1
    have q2 : sIx items.size items.size hi - sIx items.size 0 lo = items.size := eq_of_beq q.2
    exact hw ⟨by omega, by omega⟩
  show wpAny _ _ (if (((sIx items.size 0 lo : Nat) : Int) == 0 && (1 : Int) == 1 && (sIx items.size items.size hi - sIx items.size 0 lo) == items.size) = true then _ else _) _ _ s
  rw [if_neg hno, pick_gen]
  first
    | exact wpAny_bind (m := Builtin.Tuple.tupleExact _) (wpAny_newObj_type (wpAny_pure ⟨_, rfl, wpAny_pure h⟩) htake)
    | exact wpAny_bind (m := Builtin.Tuple.tupleExact _) (wpAny_newObj_type (wpAny_bind (wpAny_pure (wpAny_pure ⟨_, rfl, wpAny_pure h⟩))) htake)
    | exact wpAny_bind (wpAny_bind (m := Builtin.Tuple.tupleExact _) (wpAny_newObj_type (wpAny_pure (wpAny_pure ⟨_, rfl, wpAny_pure h⟩)) htake))
    | exact wpAny_bind (wpAny_bind (m := Builtin.Tuple.tupleExact _) (wpAny_newObj_type (wpAny_pure ⟨_, rfl, wpAny_pure h⟩) htake))
end
end HT

namespace L2
open PySem PySem.Spec PyProof.Rows

/-! ### the parts of a slice -/
abbrev TO := St → Hp → (Option Int → Hp → Prop) → Prop
/-- a slice's part (left out, or an int) -/
def PO (X : Cx) (e : Option Expr) (t : TO) : Prop :=
  ∀ (pins : List (Addr × Obj)) (s : Shared) (σ : St) (H : Hp) (Q : Option Int → Hp → Prop), Inv X pins σ H s → t σ H Q →
    wpAny (model X.prog X.w) X.A (evalPart e X.env) (fun u s' => ∃ o H', Inv X pins σ H' s' ∧ IsPart u o ∧ Q o H') X.xe s
def tNoPart : TO := fun _ H Q => Q none H
def tPart (t : TE) : TO := fun σ H Q => t σ H fun x H1 => ∃ i, x = .int i ∧ Q (some i) H1

section
variable {X : Cx} {e : Expr} {te : TE} {lo hi : Option Expr} {tl th : TO} {pos p2 : Pos}

theorem po_none : PO X none tNoPart := by
  intro pins s σ H Q I h
  rw [evalPart_none]
  exact wpAny_pure ⟨none, H, I, .none, h⟩
theorem po_some (h : PE X e te) : PO X (some e) (tPart te) := by
  intro pins s σ H Q I hw
  rw [evalPart_some]
  refine thn (h pins s σ H _ I hw) fun u s1 ⟨x, H1, I1, r1, q1⟩ => ?_
  obtain ⟨i, rfl, q⟩ := q1
  obtain ⟨t, rfl⟩ := r1
  exact ⟨some i, H1, I1, .int i t, q⟩

/-- what a slice of a value is, by values: the slice object stands at sl -/
def SlR (X : Cx) (r : V → Option Int → Option Int → Hp → VK → Prop) : Prop :=
  ∀ (pins : List (Addr × Obj)) (s : Shared) (σ : St) (H : Hp) (x : V) (v vl vu : Value) (lo hi : Option Int) (sl : Addr) (Q : VK), Inv X pins σ H s → RelV x v → s.heap.IsSliceOf sl vl vu .none → IsPart vl lo → IsPart vu hi → r x lo hi H Q →
    ∃ T id, typeLookup (.type T) "__getitem__" = pure (some (.builtin id)) ∧ s.TypeIs v T ∧ wpAny (model X.prog X.w) X.A (getItem v (.ref sl)) (EP X pins σ Q) X.xe s
theorem SlR.or {r r' : V → Option Int → Option Int → Hp → VK → Prop} (h : SlR X r) (h' : SlR X r') : SlR X (fun x lo hi H Q => r x lo hi H Q ∨ r' x lo hi H Q) := by
  intro pins s σ H x v vl vu lo hi sl Q I rx hs pl pu q
  rcases q with q | q
  · exact h pins s σ H x v vl vu lo hi sl Q I rx hs pl pu q
  · exact h' pins s σ H x v vl vu lo hi sl Q I rx hs pl pu q
def tSl (r : V → Option Int → Option Int → Hp → VK → Prop) (te : TE) (tl th : TO) : TE := fun σ H Q => te σ H fun x H1 => tl σ H1 fun l H2 => th σ H2 fun u H3 => r x l u H3 Q
/-- a[lo:hi], any a -/
theorem pe_slice {r : V → Option Int → Option Int → Hp → VK → Prop} (hr : SlR X r) (he : PE X e te) (hl : PO X lo tl) (hu : PO X hi th) : PE X (.Subscript e (.Slice lo hi none p2) pos) (tSl r te tl th) := by
  intro pins s σ H Q I h
  refine Subscript_ (thn (he pins s σ H _ I h) fun v s1 ⟨x, H1, I1, r1, q1⟩ => ?_)
  refine wpAny_Slice (thn (hl pins s1 σ H1 _ I1 q1) fun vl s2 ⟨l, H2, I2, pl, q2⟩ => thn (hu pins s2 σ H2 _ I2 q2) fun vu s3 ⟨u, H3, I3, pu, q3⟩ => ?_)
  rw [evalPart_none]
  refine wpAny_pure ?_
  have I4 : Inv X pins σ H3 { s3 with heap := s3.heap.push { cls := .type "slice", data := .fields #[vl, vu, .none] } } := I3.kept (t' := s3.toks) fun b ob q => Heap.get?_push_of_some _ q
  obtain ⟨T, id, hT, ht, hg⟩ := hr pins { s3 with heap := s3.heap.push { cls := .type "slice", data := .fields #[vl, vu, .none] } } σ H3 x v vl vu l u s3.heap.objs.size Q I4 r1 (Heap.IsSliceOf.new ..) pl pu q3
  show wpAny (model X.prog X.w) X.A (subscriptTail e (.Slice lo hi none p2) v (.ref s3.heap.objs.size)) (EP X pins σ Q) X.xe { s3 with heap := s3.heap.push { cls := .type "slice", data := .fields #[vl, vu, .none] } }
  exact tail_any (ops := [.ref s3.heap.objs.size, v]) ht hT hg (by with_unfolding_all rfl)

/-- the items of xs[lo:hi] -/
def cutV (xs : List V) (lo hi : Option Int) : List V := (xs.drop (HT.sIx xs.length 0 lo)).take (HT.sIx xs.length xs.length hi - HT.sIx xs.length 0 lo)
theorem cutV_length (xs : List V) (lo hi : Option Int) : (cutV xs lo hi).length ≤ xs.length := by
  unfold cutV
  rw [List.length_take, List.length_drop]
  omega
/-- t[lo:hi], not the whole of it (the whole would be t itself) -/
def rSlT (K : PySem.W.Frag) : V → Option Int → Option Int → Hp → VK → Prop := fun x lo hi H Q => ∃ a xs, x = .ref a ∧ SqT K H a xs ∧
  ¬ (HT.sIx xs.length 0 lo = 0 ∧ HT.sIx xs.length xs.length hi = xs.length) ∧ ∀ p, H p = none → Q (.ref p) (upd H p (.tup (cutV xs lo hi)))
theorem sl_tup : SlR X (rSlT X.K) := by
  intro pins s σ H x v vl vu lo hi sl Q I rx hs pl pu h
  obtain ⟨a, xs, rfl, hx, hw, q⟩ := h
  cases rx
  obtain ⟨its, r, ht, hz⟩ := I.tuple hx
  have hlen : its.toArray.size = xs.length := by rw [List.size_toArray]; exact r.length.symm
  refine ⟨"tuple", _, PyProof.Rows.slot_tuple_getitem.lookup, ht.typeIs, ?_⟩
  refine HT.getItem_tuple_cut ht hs pl pu (by rw [hlen]; exact hw) ?_ (by rw [hlen]; exact hz)
  rw [hlen]
  refine ⟨.ref s.heap.objs.size, _, I.laid (t' := s.toks) (o := .tup (cutV xs lo hi)) (fun b ob q => Heap.get?_push_of_some _ q) (Nat.le_refl _) ?_, rfl, q _ (I.hok.fresh (Nat.le_refl _))⟩
  exact ⟨Nat.le_trans (cutV_length xs lo hi) hz, _, (r.drop (HT.sIx xs.length 0 lo)).take (HT.sIx xs.length xs.length hi - HT.sIx xs.length 0 lo), IsTupP.new _ _⟩

/-! ### t < u, t + u -/
def rLtT (K : PySem.W.Frag) : R2 := fun x y H Q => ∃ a b ns ms, x = .ref a ∧ y = .ref b ∧ SqT K H a (ns.map V.int) ∧ SqT K H b (ms.map V.int) ∧ Q (.bl (HT.lexLt ns ms)) H
/-- t + u, t not empty: u empty gives t itself -/
def rCatT (K : PySem.W.Frag) : R2 := fun x y H Q => ∃ a b xs ys, x = .ref a ∧ y = .ref b ∧ SqT K H a xs ∧ SqT K H b ys ∧ xs ≠ [] ∧ xs.length + ys.length ≤ sizeLine ∧
  (ys = [] → Q (.ref a) H) ∧ (ys ≠ [] → ∀ p, H p = none → Q (.ref p) (upd H p (.tup (xs ++ ys))))
theorem Vals.nil_iff {xs : List V} {us : List Value} (r : Vals xs us) : us = [] ↔ xs = [] := by
  cases r with
  | nil => simp
  | cons _ _ => simp
end
end L2

namespace L2
open PySem PySem.Spec PyProof.Rows

/-! ### places -/
/-- the place that an index of any sign means -/
def ixN (n : Nat) (i : Int) : Option Nat := if 0 ≤ i then (if i < n then some i.toNat else none) else if -(n : Int) ≤ i then some (i + n).toNat else none
def atI {α : Type} (xs : List α) (i : Int) : Option α := (ixN xs.length i).bind fun j => xs[j]?
theorem ixN_seq {n : Nat} {i : Int} {j : Nat} (h : ixN n i = some j) : seqIndex? i n = some j ∧ j < n ∧ -(n : Int) ≤ i ∧ i < n := by
  unfold ixN at h
  by_cases h0 : 0 ≤ i
  · rw [if_pos h0] at h
    by_cases h1 : i < n
    · rw [if_pos h1] at h
      have e : i.toNat = j := Option.some.inj h
      exact ⟨by rw [seqIndex_of h0 h1, e], by omega, by omega, h1⟩
    · rw [if_neg h1] at h; cases h
  · rw [if_neg h0] at h
    by_cases h1 : -(n : Int) ≤ i
    · rw [if_pos h1] at h
      have e : (i + n).toNat = j := Option.some.inj h
      exact ⟨by rw [seqIndex_neg (by omega) h1, e], by omega, h1, by omega⟩
    · rw [if_neg h1] at h; cases h
theorem atI_get {α : Type} {xs : List α} {i : Int} {v : α} (h : atI xs i = some v) : ∃ j, seqIndex? i xs.length = some j ∧ xs[j]? = some v ∧ j < xs.length ∧ -(xs.length : Int) ≤ i ∧ i < xs.length := by
  unfold atI at h
  cases e : ixN xs.length i with
  | none => rw [e] at h; cases h
  | some j =>
    rw [e] at h
    obtain ⟨h1, h2, h3, h4⟩ := ixN_seq e
    exact ⟨j, h1, h, h2, h3, h4⟩
theorem atI_nat {α : Type} {xs : List α} {j : Nat} {v : α} (h : xs[j]? = some v) : atI xs (j : Int) = some v := by
  have hj : j < xs.length := (List.getElem?_eq_some_iff.mp h).1
  have e : ixN xs.length (j : Int) = some j := by
    unfold ixN
    rw [if_pos (by omega), if_pos (by omega)]; simp
  unfold atI; rw [e]; exact h
/-! ### what may be subscripted -/
/-- what stands as an index of a plain subscript -/
def PlainIx (b : Expr) : Prop := ∀ o i, subscripted b false o i = operate [o, i] (getItem o i)
/-- a subscript by values -/
def IxR (X : Cx) (r : R2) : Prop :=
  ∀ (value slice : Expr) (pins : List (Addr × Obj)) (s : Shared) (σ : St) (H : Hp) (x y : V) (v u : Value) (Q : VK), Inv X pins σ H s → RelV x v → RelV y u → r x y H Q →
    subscripted slice false v u = operate [v, u] (getItem v u) → wpAny (model X.prog X.w) X.A (subscriptTail value slice v u) (EP X pins σ Q) X.xe s
/-- a call of a builtin's method by values: the receiver, the arguments -/
def MtR (X : Cx) (id : String) (r : V → List V → Hp → VK → Prop) : Prop :=
  ∀ (pins : List (Addr × Obj)) (s : Shared) (σ : St) (H : Hp) (x : V) (xs : List V) (v : Value) (us : List Value) (Q : VK), Inv X pins σ H s → RelV x v → Vals xs us → r x xs H Q →
    wpAny (model X.prog X.w) X.A (call (.builtin id) (v :: us)) (EP X pins σ Q) X.xe s
section
variable {X : Cx} {a b : Expr} {ta tb : TE} {pos : Pos}
theorem IxR.or {r r' : R2} (h : IxR X r) (h' : IxR X r') : IxR X (fun x y H Q => r x y H Q ∨ r' x y H Q) := by
  intro value slice pins s σ H x y v u Q I rx ry q hs
  rcases q with q | q
  · exact h value slice pins s σ H x y v u Q I rx ry q hs
  · exact h' value slice pins s σ H x y v u Q I rx ry q hs
theorem MtR.or {id : String} {r r' : V → List V → Hp → VK → Prop} (h : MtR X id r) (h' : MtR X id r') : MtR X id (fun x xs H Q => r x xs H Q ∨ r' x xs H Q) := by
  intro pins s σ H x xs v us Q I rx rs q
  rcases q with q | q
  · exact h pins s σ H x xs v us Q I rx rs q
  · exact h' pins s σ H x xs v us Q I rx rs q
/-- a[b] -/
theorem pe_ix {r : R2} (hr : IxR X r) (ha : PE X a ta) (hb : PE X b tb) (hs : PlainIx b) : PE X (.Subscript a b pos) (tOp r ta tb) := by
  intro pins s σ H Q I h
  exact Subscript_ (binT ha hb I h fun v u s2 x y H2 I2 rx ry q => hr a b pins s2 σ H2 x y v u Q I2 rx ry q (hs _ _))

def rIxL (K : PySem.W.Frag) : R2 := fun x y H Q => ∃ p xs i v, x = .ref p ∧ y = .int i ∧ SqL K H p xs ∧ atI xs i = some v ∧ Q v H
def rIxT (K : PySem.W.Frag) : R2 := fun x y H Q => ∃ p xs i v, x = .ref p ∧ y = .int i ∧ SqT K H p xs ∧ atI xs i = some v ∧ Q v H
def rIxS : R2 := fun x y H Q => ∃ z i c, x = .str z ∧ y = .int i ∧ z.length ≤ sizeLine ∧ atI z.cps.toList i = some c ∧ Q (.str ⟨#[c]⟩) H
theorem ix_list : IxR X (rIxL X.K) := by
  intro value slice pins s σ H x y v u Q I rx ry h hs
  obtain ⟨p, xs, i, z, rfl, rfl, hq, he, q⟩ := h
  cases rx
  obtain ⟨t, rfl⟩ := ry
  obtain ⟨its, r, pl, hz⟩ := I.list hq
  obtain ⟨j, h1, h2, h3, h4, h5⟩ := atI_get he
  obtain ⟨w, ew, rw'⟩ := r.get h2
  have hl := r.length
  have hn := line63
  have fin : EP X pins σ Q w s := ⟨z, H, I, rw', q⟩
  by_cases h0 : 0 ≤ i
  · have hj : i.toNat = j := by
      rw [seqIndex_of h0 h5] at h1
      exact Option.some.inj h1
    exact item_listR pl.isList h0 (by omega) (by rw [hj]; simpa using ew) fin hs
  · have hj : (i + (its.toArray.size : Int)).toNat = j := by
      rw [seqIndex_neg (by omega) h4] at h1
      rw [List.size_toArray, ← hl]
      exact Option.some.inj h1
    exact subscriptTail_builtinR (x := w) pl.isList.typeIs slot_list_getitem.lookup
      (wpAny_getItem_list_neg (Q := fun r s' => r = w ∧ EP X pins σ Q r s') pl.isList (by omega) (by rw [List.size_toArray] <;> omega) (by omega) (by rw [hj]; simpa using ew) ⟨rfl, fin⟩) hs
theorem ix_tup : IxR X (rIxT X.K) := by
  intro value slice pins s σ H x y v u Q I rx ry h hs
  obtain ⟨p, xs, i, z, rfl, rfl, hq, he, q⟩ := h
  cases rx
  obtain ⟨t, rfl⟩ := ry
  obtain ⟨its, r, pl, hz⟩ := I.tuple hq
  obtain ⟨j, h1, h2, h3, h4, h5⟩ := atI_get he
  obtain ⟨w, ew, rw'⟩ := r.get h2
  have hl := r.length
  have hn := line63
  have fin : EP X pins σ Q w s := ⟨z, H, I, rw', q⟩
  exact subscriptTail_builtinR (x := w) pl.typeIs slot_tuple_getitem.lookup
    (getItem_tuple (j := j) (Q := fun r s' => r = w ∧ EP X pins σ Q r s') pl (by omega) (by omega) (by rw [List.size_toArray, ← hl]; exact h1) (by simpa using ew) ⟨rfl, fin⟩) hs
theorem ix_str : IxR X rIxS := by
  intro value slice pins s σ H x y v u Q I rx ry h hs
  obtain ⟨z, i, c, rfl, rfl, hz, he, q⟩ := h
  obtain ⟨t, rfl⟩ := rx
  obtain ⟨t', rfl⟩ := ry
  obtain ⟨j, h1, h2, h3, h4, h5⟩ := atI_get he
  have hl : z.cps.toList.length = z.length := by simp [Str.length]
  rw [hl] at h1 h4 h5
  have hn := line63
  exact tail_any (typeIs_str s z t) slot_str_getitem.lookup (getItem_str (c := c) (by
    have e1 : decide (i < -(2 ^ 63 : Int)) = false := decide_eq_false (by omega)
    have e2 : decide (i ≥ 2 ^ 63) = false := decide_eq_false (by omega)
    rw [e1, e2, Bool.or_false]) (by rw [h1]; simpa using h2) ⟨.str ⟨#[c]⟩, H, I.tok _, ⟨_, rfl⟩, q⟩) hs
/-- list, tuple or str -/
def rIx (K : PySem.W.Frag) : R2 := fun x y H Q => rIxL K x y H Q ∨ rIxT K x y H Q ∨ rIxS x y H Q
/-! ### xs[i] = v, any sign -/
/-- the list's object behind a store -/
theorem mapSeq_set (its : List Value) (n j : Nat) (u : Value) : Obj.mapSeq (·.setIfInBounds j u) { cls := .type "list", data := .seq its.toArray n } = { cls := .type "list", data := .seq (its.set j u).toArray n } := by
  simp [Obj.mapSeq]
theorem Inv.lst {pins : List (Addr × Obj)} {σ : St} {H : Hp} {s : Shared} {p : Addr} {xs : List V} (I : Inv X pins σ H s) (h : H p = some (.lst xs)) :
    ∃ (its : List Value) (n : Nat), Vals xs its ∧ s.heap.get? p = some { cls := .type "list", data := .seq its.toArray n } ∧ xs.length ≤ sizeLine := by
  obtain ⟨z, its, n, r, e⟩ := I.hok p _ h
  exact ⟨its, n, r, e, z⟩
/-- the list at p is written by an update of its object -/
theorem Inv.lstUpd {pins : List (Addr × Obj)} {σ : St} {H : Hp} {s : Shared} {p : Addr} {xs ys : List V} {its its' : List Value} {n n' : Nat} {f : Obj → Obj} (I : Inv X pins σ H s) (h : H p = some (.lst xs))
    (ho : s.heap.get? p = some { cls := .type "list", data := .seq its.toArray n }) (hf : f { cls := .type "list", data := .seq its.toArray n } = { cls := .type "list", data := .seq its'.toArray n' }) (r : Vals ys its') (hz : ys.length ≤ sizeLine) (t : Nat) :
    Inv X pins σ (upd H p (.lst ys)) { s with heap := s.heap.update p f, toks := t } := by
  have e : (s.heap.update p f).get? p = some { cls := .type "list", data := .seq its'.toArray n' } := by
    rw [Heap.get?_update_self f ho (by rw [hf] <;> rfl), hf]
  refine I.write (x := p) (e := p) (by rw [h]; trivial) (.inl rfl) (fun b u hb q => (Heap.get?_update_other _ _ (Ne.symm hb)).trans q) ⟨_, e⟩ ?_
  exact ⟨hz, its', n', r, e⟩
def rSetL : V → V → V → Hp → (Hp → Prop) → Prop := fun o i v H Q => ∃ p xs k j, o = .ref p ∧ i = .int k ∧ H p = some (.lst xs) ∧ ixN xs.length k = some j ∧ Q (upd H p (.lst (xs.set j v)))
theorem set_list : PSet X rSetL := by
  intro pins s σ H o i v ov iv u Q I ro ri rv h
  obtain ⟨p, xs, k, j, rfl, rfl, hp, hj, q⟩ := h
  cases ro
  obtain ⟨t, rfl⟩ := ri
  obtain ⟨its, n, r, ho, hz⟩ := I.lst hp
  obtain ⟨h1, h2, h3, h4⟩ := ixN_seq hj
  have hl := r.length
  have hn := line63
  have I' : Inv X pins σ (upd H p (.lst (xs.set j v))) { s with heap := s.heap.update p (Obj.mapSeq (·.setIfInBounds j u)) } :=
    I.lstUpd hp ho (mapSeq_set its n j u) (r.set rv j) (by rw [List.length_set]; exact hz) s.toks
  by_cases h0 : 0 ≤ k
  · have hk : k.toNat = j := by
      rw [seqIndex_of h0 h4] at h1
      exact Option.some.inj h1
    exact PySem.W.ki_setAt ho h0 (by omega) (by rw [List.size_toArray, ← hl]; exact h4) (by rw [hk]; exact ⟨_, I', q⟩)
  · have hk : (k + (its.toArray.size : Int)).toNat = j := by
      rw [seqIndex_neg (by omega) h3] at h1
      rw [List.size_toArray, ← hl]
      exact Option.some.inj h1
    exact PySem.W.ki_setBack ho (by omega) (by rw [List.size_toArray, ← hl]; exact h3) (by omega) (by rw [hk]; exact ⟨_, I', q⟩)

/-! ### slices -/
theorem slice_bounds (lo hi : Option Int) (n : Nat) : (sliceBounds lo hi none n).1 = ((HT.sIx n 0 lo : Nat) : Int) ∧ (sliceBounds lo hi none n).2.1 = ((HT.sIx n n hi : Nat) : Int) ∧ (sliceBounds lo hi none n).2.2 = 1 := by
  refine ⟨?_, ?_, rfl⟩
  · cases lo with
    | none => simp [sliceBounds, HT.sIx]
    | some i =>
      simp only [sliceBounds, HT.sIx, Option.getD_none, show (1 : Int) > 0 by decide, if_true]
      by_cases h : i < 0
      · simp only [h, if_true] <;> omega
      · simp only [h, if_false] <;> omega
  · cases hi with
    | none => simp [sliceBounds, HT.sIx]
    | some i =>
      simp only [sliceBounds, HT.sIx, Option.getD_none, show (1 : Int) > 0 by decide, if_true]
      by_cases h : i < 0
      · simp only [h, if_true] <;> omega
      · simp only [h, if_false] <;> omega
theorem slicePick_cut (its : List Value) (lo hi : Option Int) : slicePick its.toArray lo hi none = ((its.drop (HT.sIx its.length 0 lo)).take (HT.sIx its.length its.length hi - HT.sIx its.length 0 lo)).toArray := by
  obtain ⟨h1, h2, h3⟩ := slice_bounds lo hi its.toArray.size
  unfold slicePick
  rw [h1, h2, h3]
  simp only [sliceRange_one, pick_run, List.size_toArray] <;> rfl
/-- xs[lo:hi] of a list: a new list -/
def rSlL (K : PySem.W.Frag) : V → Option Int → Option Int → Hp → VK → Prop := fun x lo hi H Q => ∃ a xs, x = .ref a ∧ SqL K H a xs ∧ ∀ p, H p = none → Q (.ref p) (upd H p (.lst (cutV xs lo hi)))
theorem sl_list : SlR X (rSlL X.K) := by
  intro pins s σ H x v vl vu lo hi sl Q I rx hs pl pu h
  obtain ⟨a, xs, rfl, hx, q⟩ := h
  cases rx
  obtain ⟨its, r, ht, hz⟩ := I.list hx
  have hlen := r.length
  refine ⟨"list", _, slot_list_getitem.lookup, ht.isList.typeIs, ?_⟩
  refine wpAny_getItem_list_slice ht.isList hs pl pu .none (by simp) ?_ (by rw [List.size_toArray] <;> omega)
  rw [slicePick_cut, ← hlen]
  refine ⟨.ref s.heap.objs.size, _, I.laid (t' := s.toks) (o := .lst (cutV xs lo hi)) (fun b ob q => Heap.get?_push_of_some _ q) (Nat.le_refl _) ?_, rfl, q _ (I.hok.fresh (Nat.le_refl _))⟩
  exact ⟨Nat.le_trans (cutV_length xs lo hi) hz, _, 0, (r.drop (HT.sIx xs.length 0 lo)).take (HT.sIx xs.length xs.length hi - HT.sIx xs.length 0 lo), Heap.get?_push_size _ rfl⟩

/-! ### in, not in: flat items -/
def flatV : V → Bool
  | .non => true
  | .bl _ => true
  | .int _ => true
  | .str _ => true
  | _ => false
/-- == of flat values -/
def eqV : V → V → Bool
  | .non, .non => true
  | .bl a, .bl b => a == b
  | .bl a, .int b => (if a then 1 else 0) == b
  | .int a, .bl b => a == (if b then 1 else 0)
  | .int a, .int b => a == b
  | .str a, .str b => a == b
  | _, _ => false
/-- the items' answers, read off the values (a value's own answer does not lean on its token) -/
def eqU (x : V) (u : Value) : Bool := match u with
  | .none => eqV .non x
  | .bool b => eqV (.bl b) x
  | .int i _ => eqV (.int i) x
  | .str z _ => eqV (.str z) x
  | _ => false
def inV (x : V) (xs : List V) : Bool := xs.any fun y => eqV y x
/-- x in a list or tuple of flat items -/
def rIn (K : PySem.W.Frag) (neg : Bool) : R2 := fun x y H Q => ∃ p xs, y = .ref p ∧ (SqL K H p xs ∨ SqT K H p xs) ∧ flatV x = true ∧ xs.all flatV = true ∧ Q (.bl (if neg then !inV x xs else inV x xs)) H
/-! ### len, list(x), tuple(x) of any list or tuple that is read -/
theorem call_len_seq : CallR X (.builtin "len") (fun xs H Q => ∃ p ys, xs = [.ref p] ∧ (SqL X.K H p ys ∨ SqT X.K H p ys) ∧ Q (.int ys.length) H) := by
  intro pins s σ H xs us Q I r h
  obtain ⟨p, ys, rfl, hq, q⟩ := h
  obtain ⟨u, rfl, rx⟩ := vals1 r
  cases rx
  have hn := line63
  rcases hq with hq | hq
  · obtain ⟨its, r', pl, hz⟩ := I.list hq
    have hlen := r'.length
    exact Calls.call_len_list pl.isList (by simp only [List.size_toArray] <;> omega) ⟨.int ys.length, H, I.tok _, ⟨s.toks + 1, by rw [List.size_toArray, hlen]⟩, q⟩
  · obtain ⟨its, r', pl, hz⟩ := I.tuple hq
    have hlen := r'.length
    exact len_tuple pl (by simp only [List.size_toArray] <;> omega) ⟨.int ys.length, H, I.tok _, ⟨s.toks + 1, by rw [List.size_toArray, hlen]⟩, q⟩
theorem call_len_str : CallR X (.builtin "len") (fun xs H Q => ∃ z, xs = [.str z] ∧ z.length ≤ sizeLine ∧ Q (.int z.length) H) := by
  intro pins s σ H xs us Q I r h
  obtain ⟨z, rfl, hz, q⟩ := h
  obtain ⟨u, rfl, t, rfl⟩ := vals1 r
  have hn := line63
  exact len_str (by omega) ⟨.int z.length, H, I.tok _, ⟨_, rfl⟩, q⟩
theorem CallR.or {f : Value} {r r' : List V → Hp → VK → Prop} (h : CallR X f r) (h' : CallR X f r') : CallR X f (fun xs H Q => r xs H Q ∨ r' xs H Q) := by
  intro pins s σ H xs us Q I rs q
  rcases q with q | q
  · exact h pins s σ H xs us Q I rs q
  · exact h' pins s σ H xs us Q I rs q
theorem call_tuple_of : CallR X (.type "tuple") (fun xs H Q => ∃ p ys, xs = [.ref p] ∧ ((SqL X.K H p ys ∧ ∀ l, H l = none → Q (.ref l) (upd H l (.tup ys))) ∨ (SqT X.K H p ys ∧ Q (.ref p) H))) := by
  intro pins s σ H xs us Q I r h
  obtain ⟨p, ys, rfl, h⟩ := h
  obtain ⟨u, rfl, rx⟩ := vals1 r
  cases rx
  rcases h with ⟨hq, q⟩ | ⟨hq, q⟩
  · obtain ⟨its, r', pl, hz⟩ := I.list hq
    have hlen := r'.length
    refine call_tuple_list pl.isList (fun h' kp => ?_) (by simp only [List.size_toArray] <;> omega)
    have I1 : Inv X pins σ H { s with heap := h' } := I.kept (t' := s.toks) kp
    have I2 : Inv X pins σ (upd H h'.objs.size (.tup ys)) { s with heap := h'.push { cls := .type "tuple", data := .seq its.toArray } } :=
      I1.laid (t' := s.toks) (fun b o e => Heap.get?_push_of_some _ e) (Nat.le_refl _) (show ObjOk X.prog X.w _ _ _ (.tup ys) from ⟨hz, its, r', IsTupP.new _ _⟩)
    exact ⟨.ref h'.objs.size, _, I2, rfl, q _ (I1.hok.fresh (Nat.le_refl _))⟩
  · obtain ⟨its, r', pl, hz⟩ := I.tuple hq
    exact call_tuple_same pl ⟨.ref p, H, I, rfl, q⟩

/-! ### the call of a builtin's method: o.m(..) -/
/-- the value is of that builtin type -/
def tyV (K : PySem.W.Frag) (T : String) (x : V) (H : Hp) : Prop := match x with
  | .str _ => T = "str"
  | .int _ => T = "int"
  | .ref p => (T = "list" ∧ ∃ xs, SqL K H p xs) ∨ (T = "tuple" ∧ ∃ o, K.lookup p = some o ∧ o.cls = .type "tuple" ∧ o.dict = none) ∨
      (T = "dict" ∧ ((∃ kvs, H p = some (.dK kvs)) ∨ ∃ kvs, H p = some (.dT kvs))) ∨ (T = "set" ∧ ∃ S n, H p = some (.set S n))
  | _ => False
theorem tyV_is {pins : List (Addr × Obj)} {σ : St} {H : Hp} {s : Shared} {T : String} {x : V} {v : Value} (I : Inv X pins σ H s) (r : RelV x v) (ty : tyV X.K T x H) :
    s.TypeIs v T ∧ ∀ a, v = .ref a → ∃ ob, s.heap.get? a = some ob ∧ ob.dict = none := by
  cases x with
  | str z =>
    obtain ⟨t, rfl⟩ := r
    cases (show T = "str" from ty)
    exact ⟨typeIs_str s z t, fun _ e => nomatch e⟩
  | int i =>
    obtain ⟨t, rfl⟩ := r
    cases (show T = "int" from ty)
    exact ⟨typeIs_int s i t, fun _ e => nomatch e⟩
  | ref p =>
    cases r
    rcases ty with ⟨rfl, xs, hq⟩ | ⟨rfl, o, hk, hc, hd⟩ | ⟨rfl, hk⟩ | ⟨rfl, S, n, hk⟩
    · obtain ⟨its, _, pl, _⟩ := I.list hq
      refine ⟨pl.isList.typeIs, fun a e => ?_⟩
      cases e
      obtain ⟨o, n, e, c, hd, _⟩ := pl
      exact ⟨o, e, hd⟩
    · refine ⟨⟨o, I.kIn p o hk, hc⟩, fun a e => ?_⟩
      cases e
      exact ⟨o, I.kIn _ o hk, hd⟩
    · have z : ∃ o, s.heap.get? p = some o ∧ o.ExactDict := by
        rcases hk with ⟨kvs, hk⟩ | ⟨kvs, hk⟩
        · obtain ⟨_, _, _, _, o, _, _, e, ex, _⟩ := I.hok p _ hk
          exact ⟨o, e, ex⟩
        · obtain ⟨_, _, _, _, o, _, _, e, ex, _⟩ := I.hok p _ hk
          exact ⟨o, e, ex⟩
      obtain ⟨o, e, ex⟩ := z
      refine ⟨⟨o, e, ex.1⟩, fun a e2 => ?_⟩
      cases e2
      exact ⟨o, e, ex.2.1⟩
    · obtain ⟨o, _, _, _, e, ex, _⟩ := I.hok p _ hk
      refine ⟨⟨o, e, ex.1⟩, fun a e2 => ?_⟩
      cases e2
      exact ⟨o, e, ex.2.1⟩
  | _ => exact False.elim ty
def tBM0 (K : PySem.W.Frag) (T : String) (r : V → List V → Hp → VK → Prop) (to : TE) : TE := fun σ H Q => to σ H fun x H1 => tyV K T x H1 ∧ r x [] H1 Q
def tBM (K : PySem.W.Frag) (T : String) (r : V → List V → Hp → VK → Prop) (to : TE) (t : TA) : TE := fun σ H Q => to σ H fun x H1 => tyV K T x H1 ∧ t σ H1 fun xs H2 => r x xs H2 Q
variable {o e : Expr} {es : List Expr} {to : TE} {t : TA} {name : Str} {apos cpos : Pos} {T id : String} {r : V → List V → Hp → VK → Prop}
theorem pe_bm (pa : PlainAttrs T) (slot : Slot T name id) (hty : typeOf (.builtin id) = pure (.type "method_descriptor")) (hm : MtR X id r) (ho : PE X o to) (ha : PA X (e :: es) t)
    (hbase : attributeBase o name X.env (eval o X.env) = eval o X.env := by rfl)
    (hfew : ((backTo cpos (starEach (e :: es) X.env)).all (fun x => !x.1) && (backToKw cpos (keywordEach [] X.env)).all (fun x => x.1.isSome)
      && decide ((e :: es).length + ([] : List Keyword).length + (if ([] : List Keyword).isEmpty then 0 else 1) < 30)) = true := by rfl)
    (hline : (apos.endLine == cpos.line) = true := by rfl) (hs : starEach (e :: es) X.env = (false, eval e X.env) :: starEach es X.env := by rfl) (hplain : (backTo cpos (starEach es X.env)).any (·.1) = false := by rfl) :
    PE X (.Call (.Attribute o name apos) (e :: es) [] cpos) (tBM X.K T r to t) := by
  intro pins s σ H Q I h
  refine wpAny_Call_method_late hbase hfew hline rfl (thn (ho pins s σ H _ I h) fun v s1 ⟨x, H1, I1, r1, ty, q1⟩ => ?_)
  obtain ⟨h1, h2⟩ := tyV_is I1 r1 ty
  refine ⟨T, id, pa, slot, hty, h1, h2, ?_⟩
  have hA := ha cpos pins s1 σ H1 _ I1 q1
  rw [hs] at hA ⊢
  refine Calls.callWith_builtin (by show (false || (backTo cpos (starEach es X.env)).any (·.1)) = false; rw [hplain] <;> rfl) (Calls.evalArgs_plain ?_)
  exact thn hA fun us s2 ⟨vs, H2, I2, r2, q2⟩ => hm pins s2 σ H2 x vs v us Q I2 r1 r2 q2
/- xs.append(e), list.index on a module's tuple .. are MtR facts of 06m -/
end
end L2

namespace L2
open PySem PySem.Spec PyProof.Rows

def MtM (X : Cx) (id : String) (r : V → List V → Hp → VK → Prop) : Prop :=
  ∀ (pins : List (Addr × Obj)) (s : Shared) (σ : St) (H : Hp) (x : V) (xs : List V) (v : Value) (us : List Value) (Q : VK), Inv X pins σ H s → RelV x v → Vals xs us → r x xs H Q →
    wpAny (model X.prog X.w) X.A (call (.builtin id) (v :: us)) (EP X pins σ Q) X.xe s

/-! ### lists of values -/
theorem Vals.one : ∀ {x : V} {us : List Value}, Vals [x] us → ∃ u, us = [u] ∧ RelV x u
  | _, _, .cons r .nil => ⟨_, rfl, r⟩
theorem Vals.two : ∀ {x y : V} {us : List Value}, Vals [x, y] us → ∃ u v, us = [u, v] ∧ RelV x u ∧ RelV y v
  | _, _, _, .cons r (.cons q .nil) => ⟨_, _, rfl, r, q⟩
theorem Vals.zero : ∀ {us : List Value}, Vals [] us → us = []
  | _, .nil => rfl
theorem Vals.dropLast {xs : List V} {us : List Value} (h : Vals xs us) : Vals xs.dropLast us.dropLast := by
  induction h with
  | nil => exact .nil
  | cons r t ih =>
    cases t with
    | nil => exact .nil
    | cons q t' => exact .cons r ih
theorem Vals.eraseIdx : ∀ {xs : List V} {us : List Value} (i : Nat), Vals xs us → Vals (xs.eraseIdx i) (us.eraseIdx i)
  | _, _, _, .nil => .nil
  | _, _, 0, .cons _ t => t
  | _, _, i + 1, .cons r t => .cons r (Vals.eraseIdx i t)
theorem Vals.reverse {xs : List V} {us : List Value} (h : Vals xs us) : Vals xs.reverse us.reverse := by
  induction h with
  | nil => exact .nil
  | cons r t ih => rw [List.reverse_cons, List.reverse_cons]; exact Vals.append ih (.cons r .nil)
theorem len_erase {α : Type} : ∀ (l : List α) (i : Nat), (l.eraseIdx i).length ≤ l.length
  | [], _ => Nat.le_refl _
  | _ :: _, 0 => Nat.le_succ _
  | _ :: r, i + 1 => Nat.succ_le_succ (len_erase r i)
section
variable {X : Cx} {pins : List (Addr × Obj)} {σ : St} {H : Hp} {s : Shared} {l b : Addr} {xs ys zs : List V}

/-! ### the two steps: a tracked list is rewritten, a new list is laid -/
theorem Inv.lset {its its' : List Value} {n : Nat} {f : Array Value → Array Value} {t' : Nat} (I : Inv X pins σ H s) (hH : H l = some (.lst xs))
    (e : s.heap.get? l = some { cls := .type "list", data := .seq its.toArray n }) (hf : f its.toArray = its'.toArray) (hv : Vals ys its') (hz : ys.length ≤ sizeLine) :
    Inv X pins σ (upd H l (.lst ys)) { s with heap := s.heap.update l (Obj.mapSeq f), toks := t' } := by
  have q := PySem.IsL.update e f
  rw [hf] at q
  refine I.write (x := l) (e := l) (by rw [hH]; exact trivial) (.inl rfl) (fun b' u hb hu => (Heap.get?_update_other s.heap (Obj.mapSeq f) (Ne.symm hb)).trans hu) ⟨_, q⟩ ?_
  exact ⟨hz, its', _, hv, q⟩
theorem Inv.lnew {its : List Value} {t' : Nat} (I : Inv X pins σ H s) (hv : Vals ys its) (hz : ys.length ≤ sizeLine) :
    Inv X pins σ (upd H s.heap.objs.size (.lst ys)) { s with heap := s.heap.push { cls := .type "list", data := .seq its.toArray }, toks := t' } :=
  I.laid (fun _ _ q => Heap.get?_push_of_some _ q) (Nat.le_refl _) ⟨hz, its, 0, hv, Heap.get?_push_size _ rfl⟩
theorem Inv.fresh (I : Inv X pins σ H s) : H s.heap.objs.size = none := I.hok.fresh (Nat.le_refl _)
theorem Inv.lstM (I : Inv X pins σ H s) (hH : H l = some (.lst xs)) : xs.length ≤ sizeLine ∧ ∃ (its : List Value) (n : Nat), Vals xs its ∧ xs.length = its.length ∧ s.heap.get? l = some { cls := .type "list", data := .seq its.toArray n } := by
  obtain ⟨z, its, n, r, e⟩ := I.hok l _ hH
  exact ⟨z, its, n, r, r.length, e⟩

theorem notLongL {n : Nat} (h : n ≤ sizeLine) : Builtin.List.listTooLong n = false := by
  unfold Builtin.List.listTooLong
  exact decide_eq_false (by omega)
end

section
variable {X : Cx}

/-! ### methods -/
def rAppend : V → List V → Hp → VK → Prop := fun x vs H Q => ∃ l xs y, x = .ref l ∧ vs = [y] ∧ H l = some (.lst xs) ∧ xs.length < sizeLine ∧ Q .non (upd H l (.lst (xs ++ [y])))
theorem mt_append : MtM X "list.append" rAppend := by
  intro pins s σ H x vs v us Q I rx rv h
  obtain ⟨l, xs, y, rfl, rfl, hH, hz, q⟩ := h
  cases rx
  obtain ⟨u, rfl, ru⟩ := rv.one
  obtain ⟨z, its, n, r, hl, e⟩ := I.lstM hH
  refine call_meets F.slot_list_append ⟨_, e, rfl⟩ F.entry_list_append (F.args_list_append_2 _ _) (PySem.list_append l its.toArray n u (by rw [List.size_toArray]; omega)) ⟨e, ?_⟩
  refine ⟨.non, _, I.lset (its' := its ++ [u]) hH e (by simp) (r.append (.cons ru .nil)) ?_, rfl, q⟩
  rw [List.length_append, List.length_singleton]
  omega

def rExtend : V → List V → Hp → VK → Prop := fun x vs H Q => ∃ l b xs zs, x = .ref l ∧ vs = [.ref b] ∧ H l = some (.lst xs) ∧ H b = some (.lst zs) ∧ xs.length + zs.length ≤ sizeLine ∧ Q .non (upd H l (.lst (xs ++ zs)))
def rPop : V → List V → Hp → VK → Prop := fun x vs H Q => ∃ l xs y, x = .ref l ∧ vs = [] ∧ H l = some (.lst xs) ∧ xs[xs.length - 1]? = some y ∧ Q y (upd H l (.lst xs.dropLast))
def rPopAt : V → List V → Hp → VK → Prop := fun x vs H Q => ∃ l xs i k y, x = .ref l ∧ vs = [.int i] ∧ H l = some (.lst xs) ∧ -(2 ^ 63) ≤ i ∧ i < 2 ^ 63 ∧ seqIndex? i xs.length = some k ∧ xs[k]? = some y ∧ Q y (upd H l (.lst (xs.eraseIdx k)))
theorem mt_popAt : MtM X "list.pop" rPopAt := by
  intro pins s σ H x vs v us Q I rx rv h
  obtain ⟨l, xs, i, k, y, rfl, rfl, hH, h1, h2, hk, hy, q⟩ := h
  cases rx
  obtain ⟨u, rfl, ru⟩ := rv.one
  obtain ⟨t, rfl⟩ := ru
  obtain ⟨z, its, n, r, hl, e⟩ := I.lstM hH
  obtain ⟨w, hw, rw'⟩ := r.get hy
  refine call_meets F.slot_list_pop ⟨_, e, rfl⟩ F.entry_list_pop (F.args_list_pop_2 _ _)
    (MeetsSeq.list_pop_at l its.toArray n i t k w (fitsIndex_both h1 h2) (by rw [List.size_toArray, ← hl]; exact hk) (by rw [← Array.getElem?_toList]; exact hw) (by rw [List.size_toArray]; omega)) ⟨e, ?_⟩
  refine ⟨y, _, I.lset (its' := its.eraseIdx k) hH e ?_ (r.eraseIdx k) ?_, rw', q⟩
  · show its.toArray.eraseIdxIfInBounds k = (its.eraseIdx k).toArray
    rw [List.eraseIdxIfInBounds_toArray]
  · have := len_erase xs k
    omega

def rReverse : V → List V → Hp → VK → Prop := fun x vs H Q => ∃ l xs, x = .ref l ∧ vs = [] ∧ H l = some (.lst xs) ∧ Q .non (upd H l (.lst xs.reverse))
def rClear : V → List V → Hp → VK → Prop := fun x vs H Q => ∃ l xs, x = .ref l ∧ vs = [] ∧ H l = some (.lst xs) ∧ Q .non (upd H l (.lst []))
/-! ### list + list, list += list, list * int -/
def rCat : R2 := fun x y H Q => ∃ l b xs zs, x = .ref l ∧ y = .ref b ∧ H l = some (.lst xs) ∧ H b = some (.lst zs) ∧ xs.length + zs.length ≤ sizeLine ∧ ∀ p, H p = none → Q (.ref p) (upd H p (.lst (xs ++ zs)))
theorem op_cat : OpR X (binaryOp .Add) rCat := by
  intro pins s σ H x y v u Q I rx ry h
  obtain ⟨l, b, xs, zs, rfl, rfl, hH, hB, hz, q⟩ := h
  cases rx
  cases ry
  obtain ⟨z, its, n, r, hl, e⟩ := I.lstM hH
  obtain ⟨z2, its2, n2, r2, hl2, e2⟩ := I.lstM hB
  refine PySem.P.add_list e e2 ?_ (by rw [List.size_toArray, List.size_toArray]; omega)
  have ea : its.toArray ++ its2.toArray = (its ++ its2).toArray := by simp
  rw [ea]
  exact ⟨.ref _, _, I.lnew (t' := s.toks) (r.append r2) (by rw [List.length_append]; omega), rfl, q _ I.fresh⟩
/-- a list times an int (a negative one is nothing) -/
def rRep : R2 := fun x y H Q => ∃ l k xs, x = .ref l ∧ y = .int k ∧ H l = some (.lst xs) ∧ -(2 ^ 63) ≤ k ∧ k < 2 ^ 63 ∧ xs.length * k.toNat ≤ sizeLine ∧
  ∀ p, H p = none → Q (.ref p) (upd H p (.lst (List.replicate k.toNat xs).flatten))
/-! ### del xs[i] -/
end

/-! ### xs[a:b] = ys -/
section
variable {prog : Program} {w : World} {A : Around} {E : Value → Shared → Prop} {s : Shared}
theorem bounds_run {a c n : Nat} (hac : a ≤ c) (hc : c ≤ n) : sliceBounds (some (a : Int)) (some (c : Int)) none n = ((a : Int), (c : Int), 1) := by
  simp only [sliceBounds, Option.getD_none]
  have h1 : ¬ ((a : Int) < 0) := by omega
  have h2 : ¬ ((c : Int) < 0) := by omega
  simp only [h1, h2, if_false, show (1 : Int) > 0 by decide, if_true]
  congr 1
  · omega
  · congr 1; omega
set_option maxRecDepth 100000 in
/-- list.__setitem__ with a slice of step one and another list -/
theorem setItem_slice {l b sl : Addr} {items new : Array Value} {n n2 : Nat} {vl vu : Value} {a c : Nat} {Q : Unit → Shared → Prop}
    (e : s.heap.get? l = some { cls := .type "list", data := .seq items n }) (e2 : s.heap.get? b = some { cls := .type "list", data := .seq new n2 }) (hne : l ≠ b)
    (hs : s.heap.IsSliceOf sl vl vu .none) (pl : IsPart vl (some (a : Int))) (pu : IsPart vu (some (c : Int))) (hac : a ≤ c) (hc : c ≤ items.size)
    (hsz : items.size + new.size ≤ sizeLine) (h : Q () { s with heap := s.heap.update l (Obj.mapSeq fun xs => xs.extract 0 a ++ new ++ xs.extract c xs.size) }) :
    wpAny (model prog w) A (setItem (.ref l) (.ref sl) (.ref b)) Q E s := by
  have hl : s.heap.IsList l items := PySem.IsL.isList e
  have hb : s.heap.IsList b new := PySem.IsL.isList e2
  obtain ⟨os, hos, hcs, hds⟩ := id hs
  have hTs : s.TypeIs (.ref sl) "slice" := ⟨os, hos, hcs⟩
  have hstep : ¬ ((rawPart none == rawInt 0) = true) := Bool.false_ne_true
  have hsame : Builtin.List.listSameRef (.ref l) (.ref b) = false := by
    unfold Builtin.List.listSameRef
    exact beq_eq_false_iff_ne.mpr hne
  have hmax : (max (a : Int) (c : Int)).toNat = c := by omega
  have hz' : ((fun xs : Array Value => xs.extract 0 a ++ new ++ xs.extract c xs.size) items).size ≤ sizeLine + 1 := by
    simp only [Array.size_append, Array.size_extract]
    omega
  unfold setItem
  try with_reducible refine wpAny_holding ?_
  first | refine wpAny_bind (wpAny_pure ?_) | skip
  refine wpAny_bind (wpAny_sequenceKey hl.typeIs (by decide) ?_)
  refine wpAny_bind (wpAny_callSpecial?_slot (name := Str.ofString "__setitem__") hl.typeIs slot_list_setitem
    (wpAny_call_entry slot_list_setitem hl.typeIs entry_list_setitem ?_ (args_list_setitem _ _ _)))
  show wpAny _ _ (Builtin.List.listSubscript? (.ref sl) >>= _) _ _ s
  refine wpAny_bind ?_
  unfold Builtin.List.listSubscript?
  refine wpAny_bind (wpAny_specialOf hTs slice_no_index ?_)
  simp only [Option.isNone_none, if_true]
  refine wpAny_pure ?_
  show wpAny _ _ (typeOf (.ref sl) >>= _) _ _ s
  refine wpAny_bind (wpAny_typeOf hTs ?_)
  first
    | rw [if_neg (by decide)]
    | refine PySem.W.KFB.if_not (by decide) ?_
  rw [listSliceParts_eq]
  refine wpAny_bind (wpAny_bind (wpAny_field hos hds (x := .none) rfl (wpAny_bind (wpAny_listPart .none ?_))))
  rw [if_neg hstep]
  refine wpAny_bind (wpAny_field hos hds (x := vl) rfl (wpAny_bind (wpAny_listPart pl ?_)))
  refine wpAny_bind (wpAny_field hos hds (x := vu) rfl (wpAny_bind (wpAny_listPart pu (wpAny_pure ?_))))
  first
    | simp only [hsame, Bool.false_eq_true, if_false]
    | refine PySem.W.KFB.if_not hsame ?_
    | (dsimp only
       rw [if_neg (by rw [hsame]; exact Bool.false_ne_true)])
  refine wpAny_bind (m := Builtin.List.listAllItems (.ref b) "must assign iterable to extended slice") ?_
  unfold Builtin.List.listAllItems
  refine wpAny_bind (wpAny_typeOf hb.typeIs ?_)
  first
    | refine PySem.W.KFB.if_so (by decide) ?_
    | rw [if_pos (by decide)]
    | simp only [beq_self_eq_true, Bool.true_or, if_true]
  unfold Builtin.List.listItems
  refine wpAny_bind (wpAny_seqItems e2 rfl (wpAny_pure ?_))
  refine wpAny_bind (wpAny_bind (wpAny_seqItems e rfl (wpAny_pure ?_)))
  refine wpAny_bind (wpAny_of_eq ((sliceIndices_raw (some (a : Int)) (some (c : Int)) none items.size (by simp)).trans (congrArg (pure : Int × Int × Int → Sem (Int × Int × Int)) (bounds_run hac hc))) ?_)
  show wpAny _ _ (if ((1 : Int) == 1) = true then _ else _) _ _ s
  rw [if_pos (by decide)]
  refine wpAny_bind (wpAny_rule ?_)
  first
    | simp only [notLongL hsz, Bool.false_eq_true, if_false]
    | refine PySem.W.KFB.if_not (notLongL hsz) ?_
  first | refine wpAny_bind (wpAny_pure ?_) | skip
  show wpAny _ _ (updateSeq l (fun xs => xs.extract 0 ((a : Int)).toNat ++ new ++ xs.extract (max (a : Int) (c : Int)).toNat xs.size) >>= _) _ _ s
  rw [hmax, Int.toNat_natCast]
  refine wpAny_bind (wpAny_updateSeq (hz := Nat.le_trans (Nat.le_add_right _ _) hsz) (_hz' := hz') e rfl ?_)
  refine wpAny_bind (wpAny_letGo ?_)
  first
    | exact wpAny_bind (wpAny_pure (wpAny_pure ⟨.none, rfl, wpAny_pure h⟩))
    | exact wpAny_pure ⟨.none, rfl, wpAny_pure h⟩
end

section
variable {X : Cx}
end
end L2

namespace L2
open PySem PySem.Spec PyProof.Rows

/-! ### lists of pairs as tables -/
section
variable {κ : Type} [DecidableEq κ]
def valV (kvs : List (κ × V)) (k : κ) : Option V := (kvs.find? fun kv => decide (kv.1 = k)).map (·.2)
/-- in its place, or at the end -/
def putK (kvs : List (κ × V)) (k : κ) (v : V) : List (κ × V) :=
  if (kvs.any fun kv => decide (kv.1 = k)) = true then kvs.map (fun kv => if kv.1 = k then (kv.1, v) else kv) else kvs ++ [(k, v)]
def dropK (kvs : List (κ × V)) (k : κ) : List (κ × V) := kvs.filter fun kv => decide (kv.1 ≠ k)

theorem valV_pos {p : κ × V} {r : List (κ × V)} {k : κ} (e : p.1 = k) : valV (p :: r) k = some p.2 := by simp [valV, List.find?_cons, e]
theorem valV_neg {p : κ × V} {r : List (κ × V)} {k : κ} (e : ¬ p.1 = k) : valV (p :: r) k = valV r k := by simp [valV, List.find?_cons, e]
theorem valV_any (k : κ) : ∀ kvs : List (κ × V), (kvs.any fun kv => decide (kv.1 = k)) = (valV kvs k).isSome
  | [] => rfl
  | p :: r => by
    rw [List.any_cons]
    by_cases e : p.1 = k
    · simp only [valV_pos e, decide_eq_true e, Bool.true_or, Option.isSome_some]
    · rw [valV_neg e, decide_eq_false e, Bool.false_or]; exact valV_any k r
theorem valV_map (k j : κ) (y : V) : ∀ kvs : List (κ × V), valV (kvs.map fun kv => if kv.1 = k then (kv.1, y) else kv) j = (valV kvs j).map fun x => if j = k then y else x
  | [] => rfl
  | p :: r => by
    have ih := valV_map k j y r
    rw [List.map_cons]
    by_cases h : p.1 = k
    · rw [if_pos h]
      by_cases e : p.1 = j
      · rw [valV_pos (p := (p.1, y)) e, valV_pos e, Option.map_some, if_pos (e.symm.trans h)]
      · rw [valV_neg (p := (p.1, y)) e, valV_neg e, ih]
    · rw [if_neg h]
      by_cases e : p.1 = j
      · rw [valV_pos (p := p) e, valV_pos e, Option.map_some, if_neg (fun z => h (e.trans z))]
      · rw [valV_neg (p := p) e, valV_neg e, ih]
theorem valV_snoc (k j : κ) (y : V) : ∀ kvs : List (κ × V), valV kvs k = none → valV (kvs ++ [(k, y)]) j = if j = k then some y else valV kvs j
  | [], _ => by
    by_cases e : k = j
    · rw [if_pos e.symm]; exact valV_pos (p := (k, y)) e
    · rw [if_neg (fun z => e z.symm)]; exact valV_neg (p := (k, y)) e
  | p :: r, hn => by
    rw [List.cons_append]
    have hk : ¬ p.1 = k := fun z => by rw [valV_pos z] at hn; cases hn
    rw [valV_neg hk] at hn
    have ih := valV_snoc k j y r hn
    by_cases e : p.1 = j
    · rw [valV_pos e, valV_pos e, if_neg (fun z => hk (e.trans z))]
    · rw [valV_neg e, valV_neg e, ih]
theorem valV_put (kvs : List (κ × V)) (k j : κ) (y : V) : valV (putK kvs k y) j = if j = k then some y else valV kvs j := by
  unfold putK
  by_cases a : (kvs.any fun kv => decide (kv.1 = k)) = true
  · rw [if_pos a, valV_map]
    rw [valV_any] at a
    by_cases e : j = k
    · obtain ⟨x, hx⟩ := Option.isSome_iff_exists.mp a
      rw [if_pos e, e, hx, Option.map_some, if_pos rfl]
    · rw [if_neg e]
      cases valV kvs j with
      | none => rfl
      | some x => rw [Option.map_some, if_neg e]
  · rw [if_neg a]
    refine valV_snoc k j y kvs ?_
    rw [valV_any] at a
    cases q : valV kvs k with
    | none => rfl
    | some x => rw [q] at a; exact (a rfl).elim
theorem length_putK (kvs : List (κ × V)) (k : κ) (v : V) : (putK kvs k v).length ≤ kvs.length + 1 := by
  unfold putK
  split
  · rw [List.length_map]; omega
  · rw [List.length_append, List.length_cons, List.length_nil]; omega
theorem RelO.isSome_eq {o : Option V} {u : Option Value} (r : RelO o u) : o.isSome = u.isSome := by
  cases o with
  | none => cases u with
    | none => rfl
    | some _ => exact (show False from r).elim
  | some _ => cases u with
    | none => exact (show False from r).elim
    | some _ => rfl
theorem RelO.getD {o : Option V} {u : Option Value} {d : V} {d' : Value} (r : RelO o u) (rd : RelV d d') : RelV (o.getD d) (u.getD d') := by
  cases o with
  | none => cases u with
    | none => exact rd
    | some _ => exact (show False from r).elim
  | some _ => cases u with
    | none => exact (show False from r).elim
    | some _ => exact r

/-- raw tables of the same keys -/
theorem KV.val {kvs : List (κ × V)} {vs : List (κ × Value)} (r : KV kvs vs) (k : κ) : RelO (valV kvs k) (valueAt vs k) := by
  unfold KV at r
  induction r with
  | nil => exact True.intro
  | @cons p q ps qs h t ih =>
    obtain ⟨h1, h2⟩ := h
    by_cases e : p.1 = k
    · have e' : q.1 = k := h1.symm.trans e
      have b : valueAt (q :: qs) k = some q.2 := by simp [valueAt, List.find?_cons, e']
      rw [valV_pos e, b]; exact h2
    · have e' : ¬ q.1 = k := fun z => e (h1.trans z)
      have b : valueAt (q :: qs) k = valueAt qs k := by simp [valueAt, List.find?_cons, e']
      rw [valV_neg e, b]; exact ih
theorem KV.any {kvs : List (κ × V)} {vs : List (κ × Value)} (r : KV kvs vs) (k : κ) : (kvs.any fun kv => decide (kv.1 = k)) = vs.any fun kv => decide (kv.1 = k) := by
  unfold KV at r
  induction r with
  | nil => rfl
  | cons h t ih => rw [List.any_cons, List.any_cons, ih, h.1]
theorem KV.repl {kvs : List (κ × V)} {vs : List (κ × Value)} (r : KV kvs vs) (k : κ) {y : V} {u : Value} (ry : RelV y u) :
    KV (kvs.map fun kv => if kv.1 = k then (kv.1, y) else kv) (vs.map fun kv => if kv.1 = k then (kv.1, u) else kv) := by
  unfold KV at r ⊢
  induction r with
  | nil => exact .nil
  | @cons p q ps qs h t ih =>
    rw [List.map_cons, List.map_cons]
    refine .cons ?_ ih
    obtain ⟨h1, h2⟩ := h
    by_cases e : p.1 = k
    · rw [if_pos e, if_pos (h1.symm.trans e)]; exact ⟨h1, ry⟩
    · rw [if_neg e, if_neg (fun z => e (h1.trans z))]; exact ⟨h1, h2⟩
theorem KV.put {kvs : List (κ × V)} {vs : List (κ × Value)} (r : KV kvs vs) (k : κ) {y : V} {u : Value} (ry : RelV y u) : KV (putK kvs k y) (stored vs k u) := by
  unfold putK stored
  rw [r.any k]
  by_cases e : (vs.any fun kv => decide (kv.1 = k)) = true
  · rw [if_pos e, if_pos e]; exact r.repl k ry
  · rw [if_neg e, if_neg e]; exact Paired.snoc r ⟨rfl, ry⟩
theorem KV.drop {kvs : List (κ × V)} {vs : List (κ × Value)} (r : KV kvs vs) (k : κ) : KV (dropK kvs k) (without vs k) := by
  unfold KV at r ⊢
  unfold dropK without
  induction r with
  | nil => exact .nil
  | @cons p q ps qs h t ih =>
    obtain ⟨h1, h2⟩ := h
    rw [List.filter_cons, List.filter_cons]
    by_cases e : p.1 = k
    · have a : ¬ decide (p.1 ≠ k) = true := by simp [e]
      have b : ¬ decide (q.1 ≠ k) = true := by simp [h1.symm.trans e]
      rw [if_neg a, if_neg b]; exact ih
    · have e' : ¬ q.1 = k := fun z => e (h1.trans z)
      have a : decide (p.1 ≠ k) = true := by simp [e]
      have b : decide (q.1 ≠ k) = true := by simp [e']
      rw [if_pos a, if_pos b]; exact .cons ⟨h1, h2⟩ ih
theorem KV.keys {kvs : List (κ × V)} {vs : List (κ × Value)} (r : KV kvs vs) : kvs.map (·.1) = vs.map (·.1) := by
  unfold KV at r
  induction r with
  | nil => rfl
  | cons h t ih => rw [List.map_cons, List.map_cons, ih, h.1]
theorem KV.length {kvs : List (κ × V)} {vs : List (κ × Value)} (r : KV kvs vs) : kvs.length = vs.length := Paired.length r
end


/-! ### a tracked dict, its keys ints and texts or tuples of these -/
theorem kV_is {P : Program} {w : World} {k : Key} {u : Value} (r : RelV (kV k) u) : (mixKind P w).is k u = true := by
  cases k with
  | inl i => obtain ⟨t, e⟩ := (show ∃ t, u = Value.int i t from r); subst e; exact mixKind_int P w i t
  | inr x => obtain ⟨t, e⟩ := (show ∃ t, u = Value.str x t from r); subst e; exact mixKind_str P w x t
theorem items_are {P : Program} {w : World} : ∀ {ks : List Key} {us : List Value}, Vals (ks.map kV) us → ItemsAre (mixKind P w) ks us
  | [], _, r => by rw [List.map_nil] at r; cases r; exact .nil
  | k :: ks, _, r => by
    rw [List.map_cons] at r
    cases r with
    | cons h t => exact .cons (kV_is h) (items_are t)

/-- raw entries of a dict with tuple keys -/
abbrev KT (H : Hp) : List (List Key × V) → List (List Key × Addr × Value) → Prop := Paired fun p q => p.1 = q.1 ∧ H q.2.1 = some (.tup (p.1.map kV)) ∧ RelV p.2 q.2.2
theorem KT.val {H : Hp} {kvs : List (List Key × V)} {xs : List (List Key × Addr × Value)} (r : KT H kvs xs) (k : List Key) : RelO (valV kvs k) ((atKey xs k).map (·.2)) := by
  induction r with
  | nil => exact True.intro
  | @cons p q ps qs h t ih =>
    obtain ⟨h1, _, h2⟩ := h
    by_cases e : p.1 = k
    · have e' : q.1 = k := h1.symm.trans e
      have b : atKey (q :: qs) k = some q.2 := by simp [atKey, List.find?_cons, e']
      rw [valV_pos e, b]; exact h2
    · have e' : ¬ q.1 = k := fun z => e (h1.trans z)
      have b : atKey (q :: qs) k = atKey qs k := by simp [atKey, List.find?_cons, e']
      rw [valV_neg e, b]; exact ih
theorem KT.repl {H : Hp} {kvs : List (List Key × V)} {xs : List (List Key × Addr × Value)} (r : KT H kvs xs) (k : List Key) {y : V} {u : Value} (ry : RelV y u) :
    KT H (kvs.map fun kv => if kv.1 = k then (kv.1, y) else kv) (xs.map (putAt k u)) := by
  induction r with
  | nil => exact .nil
  | @cons p q ps qs h t ih =>
    rw [List.map_cons, List.map_cons]
    refine .cons ?_ ih
    obtain ⟨h1, h2, h3⟩ := h
    unfold putAt
    by_cases e : p.1 = k
    · rw [if_pos e, if_pos (h1.symm.trans e)]; exact ⟨h1, h2, ry⟩
    · rw [if_neg e, if_neg (fun z => e (h1.trans z))]; exact ⟨h1, h2, h3⟩
theorem KT.put {H : Hp} {kvs : List (List Key × V)} {xs : List (List Key × Addr × Value)} (r : KT H kvs xs) (k : List Key) {b : Addr} {y : V} {u : Value} (hb : H b = some (.tup (k.map kV))) (ry : RelV y u) :
    KT H (putK kvs k y) (storedH xs k b u) := by
  have e : (kvs.any fun kv => decide (kv.1 = k)) = (atKey xs k).isSome := by
    rw [valV_any, (r.val k).isSome_eq, Option.isSome_map]
  unfold putK storedH
  rw [e]
  by_cases q : (atKey xs k).isSome = true
  · rw [if_pos q, if_pos q]; exact r.repl k ry
  · rw [if_neg q, if_neg q]; exact Paired.snoc r ⟨rfl, hb, ry⟩
theorem KT.keeps {H H' : Hp} {kvs : List (List Key × V)} {xs : List (List Key × Addr × Value)} (r : KT H kvs xs) (ht : ∀ b ys, H b = some (.tup ys) → H' b = some (.tup ys)) : KT H' kvs xs :=
  Paired.mapP r fun _ _ z => ⟨z.1, ht _ _ z.2.1, z.2.2⟩

section
variable {P : Program} {w : World} {H : Hp} {h : Heap} {a : Addr}
theorem rd_of {u : HO} (ok : HOk P w H h) (e : Rd H a u) : ObjOk P w H h a u := e.ok ok
theorem dk_rd {kvs : List (Key × V)} (ok : HOk P w H h) (e : Rd H a (.dK kvs)) : kvs.length ≤ sizeLine ∧ (a == sysModules) = false ∧ ∃ vs, KV kvs vs ∧ h.DictOf (mixKind P w) a vs :=
  show ObjOk P w H h a (.dK kvs) from rd_of ok e
theorem dk_of {kvs : List (Key × V)} (ok : HOk P w H h) (e : H a = some (.dK kvs)) : kvs.length ≤ sizeLine ∧ (a == sysModules) = false ∧ ∃ vs, KV kvs vs ∧ h.DictOf (mixKind P w) a vs := dk_rd ok (.inl e)
/-- a tracked tuple of ints and texts is a key -/
theorem key_of {ks : List Key} (ok : HOk P w H h) (e : H a = some (.tup (ks.map kV))) : (tupleKind (mixKind P w)).is h ks a := by
  obtain ⟨_, its, r, o, h1, h2, _, n, h3⟩ := (show ObjOk P w H h a (.tup (ks.map kV)) from ok a _ e)
  exact ⟨o, its.toArray, n, h1, h2, h3, by simpa using items_are r⟩
theorem dt_rd {kvs : List (List Key × V)} (ok : HOk P w H h) (e : Rd H a (.dT kvs)) : kvs.length ≤ sizeLine ∧ (a == sysModules) = false ∧
    ∃ xs, KT H kvs xs ∧ h.DictOfH (tupleKind (mixKind P w)) a xs := by
  obtain ⟨z, y, xs, r, o, es, ep, h1, h2, h3, h4, h5⟩ := (show ObjOk P w H h a (.dT kvs) from rd_of ok e)
  refine ⟨z, y, xs, r, o, es, ep, h1, h2, h3, h4, fun x hx => ?_, h5⟩
  have all : ∀ {l : List (List Key × V)} {m : List (List Key × Addr × Value)}, KT H l m → ∀ x ∈ m, (tupleKind (mixKind P w)).is h x.1 x.2.1 := by
    intro l m q
    induction q with
    | nil => intro x hx; exact nomatch hx
    | @cons p q ps qs hq t ih =>
      intro x hx
      rcases List.mem_cons.mp hx with e | hx
      · subst e
        exact key_of ok (by rw [← hq.1]; exact hq.2.1)
      · exact ih x hx
  exact all r x hx
theorem dt_of {kvs : List (List Key × V)} (ok : HOk P w H h) (e : H a = some (.dT kvs)) : kvs.length ≤ sizeLine ∧ (a == sysModules) = false ∧
    ∃ xs, KT H kvs xs ∧ h.DictOfH (tupleKind (mixKind P w)) a xs := dt_rd ok (.inl e)
end

/-- what the dict at a holds at the key y -/
def DGet (H : Hp) (a : Addr) (y : V) (r : Option V) : Prop :=
  (∃ kvs k, Rd H a (.dK kvs) ∧ y = kV k ∧ r = valV kvs k) ∨ ∃ kvs k b, Rd H a (.dT kvs) ∧ y = .ref b ∧ H b = some (.tup (k.map kV)) ∧ r = valV kvs k
/-- the heap behind a[y] = v -/
def DPut (H : Hp) (a : Addr) (y v : V) (H' : Hp) : Prop :=
  (∃ kvs k, H a = some (.dK kvs) ∧ y = kV k ∧ kvs.length < sizeLine ∧ H' = upd H a (.dK (putK kvs k v))) ∨
  ∃ kvs k b, H a = some (.dT kvs) ∧ y = .ref b ∧ H b = some (.tup (k.map kV)) ∧ kvs.length < sizeLine ∧ H' = upd H a (.dT (putK kvs k v))
theorem DGet.k {H : Hp} {a : Addr} {kvs : List (Key × V)} {k : Key} (e : H a = some (.dK kvs)) : DGet H a (kV k) (valV kvs k) := .inl ⟨kvs, k, .inl e, rfl, rfl⟩
theorem DGet.t {H : Hp} {a b : Addr} {kvs : List (List Key × V)} {k : List Key} (e : H a = some (.dT kvs)) (eb : H b = some (.tup (k.map kV))) : DGet H a (.ref b) (valV kvs k) := .inr ⟨kvs, k, b, .inl e, rfl, eb, rfl⟩
theorem DPut.k {H : Hp} {a : Addr} {kvs : List (Key × V)} {k : Key} {v : V} (e : H a = some (.dK kvs)) (hl : kvs.length < sizeLine) : DPut H a (kV k) v (upd H a (.dK (putK kvs k v))) := .inl ⟨kvs, k, e, rfl, hl, rfl⟩
theorem DPut.t {H : Hp} {a b : Addr} {kvs : List (List Key × V)} {k : List Key} {v : V} (e : H a = some (.dT kvs)) (eb : H b = some (.tup (k.map kV))) (hl : kvs.length < sizeLine) :
    DPut H a (.ref b) v (upd H a (.dT (putK kvs k v))) := .inr ⟨kvs, k, b, e, rfl, eb, hl, rfl⟩


section
variable {X : Cx} {pins : List (Addr × Obj)} {σ : St} {H : Hp} {s : Shared} {a : Addr} {y v : V} {u r : Value} {o : Option V} {A : Around} {E : Value → Shared → Prop}

theorem Inv.big (I : Inv X pins σ H s) : sysModules < s.heap.objs.size := by
  have h : mainGlobals < s.heap.objs.size := (I.mod.glob.keeps I.bk).lt
  exact Nat.lt_trans (by decide) h

/-- d[y], there -/
theorem d_getItem {Q : Value → Shared → Prop} (hu : A.units + 1 < cLine) (I : Inv X pins σ H s) (g : DGet H a y (some v)) (ry : RelV y u) (h : ∀ w' s', Inv X pins σ H s' → RelV v w' → Q w' s') :
    wpAny (model X.prog X.w) A (getItem (.ref a) u) Q E s := by
  rcases g with ⟨kvs, k, e, ey, l⟩ | ⟨kvs, k, b, e, ey, eb, l⟩
  · subst ey
    obtain ⟨z, hd, vs, rel, dd⟩ := dk_rd I.hok e
    obtain ⟨w', hw, rw'⟩ := RelO.some_of (v := v) (o := valueAt vs k) (by rw [l]; exact rel.val k)
    exact wpAny_getItem_of (kV_is ry) dd.mapOf hw (h w' _ (I.tok _) rw')
  · subst ey
    cases (show u = Value.ref b from ry)
    obtain ⟨z, hd, xs, rel, dd⟩ := dt_rd I.hok e
    obtain ⟨w', hw, rw'⟩ := RelO.some_of (v := v) (o := (atKey xs k).map (·.2)) (by rw [l]; exact rel.val k)
    obtain ⟨p, hp, hp2⟩ := Option.map_eq_some_iff.mp hw
    refine wpAny_getItem_heap (tupleKind_room_in1 hu) (key_of I.hok eb) dd hp ?_
    rw [hp2]
    exact h w' _ (I.tok _) rw'
theorem d_notIn {Q : Value → Shared → Prop} (hu : A.units + 1 < cLine) (I : Inv X pins σ H s) (g : DGet H a y o) (ry : RelV y u) (h : ∀ s', Inv X pins σ H s' → Q (.bool (!o.isSome)) s') :
    wpAny (model X.prog X.w) A (compareOp .NotIn u (.ref a)) Q E s := by
  rcases g with ⟨kvs, k, e, ey, l⟩ | ⟨kvs, k, b, e, ey, eb, l⟩
  · subst ey
    obtain ⟨z, hd, vs, rel, dd⟩ := dk_rd I.hok e
    refine wpAny_notIn_of (kV_is ry) hd dd.mapOf ?_
    rw [← (rel.val k).isSome_eq, ← l]
    exact h _ (I.tok _)
  · subst ey
    cases (show u = Value.ref b from ry)
    obtain ⟨z, hd, xs, rel, dd⟩ := dt_rd I.hok e
    refine wpAny_notIn_heap (tupleKind_room_in1 hu) (key_of I.hok eb) hd dd ?_
    have q := (rel.val k).isSome_eq
    rw [Option.isSome_map] at q
    rw [← q, ← l]
    exact h _ (I.tok _)
/-- a dict's object is replaced -/
theorem d_write {h' : Heap} {t' : Nat} {ob : HO} (I : Inv X pins σ H s) (mu : Mut (H a)) (hs : Heap.SameBut a s.heap h') (he : ∃ q, h'.get? a = some q) (new : ObjOk X.prog X.w (upd H a ob) h' a ob) :
    Inv X pins σ (upd H a ob) { s with heap := h', toks := t' } :=
  I.write (x := a) (e := a) mu (.inl rfl) (fun b q hb z => (hs.2 b hb).trans z) he new
theorem dk_new {P : Program} {w : World} {H' : Hp} {h' : Heap} {kvs : List (Key × V)} {vs : List (Key × Value)} (z : kvs.length ≤ sizeLine) (hd : (a == sysModules) = false) (rel : KV kvs vs) (dd : h'.DictOf (mixKind P w) a vs) :
    ObjOk P w H' h' a (.dK kvs) := ⟨z, hd, vs, rel, dd⟩
/-- d[y] = v -/
theorem d_setItem {H' : Hp} {Q : Unit → Shared → Prop} (hu : A.units + 1 < cLine) (I : Inv X pins σ H s) (g : DPut H a y v H') (ry : RelV y u) (rv : RelV v r) (h : ∀ s', Inv X pins σ H' s' → Q () s') :
    wpAny (model X.prog X.w) A (setItem (.ref a) u r) Q E s := by
  rcases g with ⟨kvs, k, e, ey, l, eH⟩ | ⟨kvs, k, b, e, ey, eb, l, eH⟩
  · subst ey eH
    obtain ⟨z, hd, vs, rel, dd⟩ := dk_of I.hok e
    have hz : vs.length ≤ sizeLine := by rw [← rel.length]; exact z
    have hl : (putK kvs k v).length ≤ sizeLine := by have := length_putK kvs k v; omega
    refine wpAny_setItem_pairs (hsz := hz) (kV_is ry) dd fun h' dd' hs => h _ ?_
    have he : ∃ q, h'.get? a = some q := let ⟨q, _, _, hq, _⟩ := dd'; ⟨q, hq⟩
    exact d_write I (by rw [e]; exact True.intro) hs he (dk_new hl hd (rel.put k rv) dd')
  · subst ey eH
    cases (show u = Value.ref b from ry)
    obtain ⟨z, hd, xs, rel, dd⟩ := dt_of I.hok e
    have hz : xs.length ≤ sizeLine := by rw [← Paired.length rel]; exact z
    have hl : (putK kvs k v).length ≤ sizeLine := by have := length_putK kvs k v; omega
    refine wpAny_setItem_heap (hsz := hz) (tupleKind_room_in1 hu) (key_of I.hok eb) dd fun h' dd' hs => h _ ?_
    obtain ⟨q, es, ep, hq, h2, h3, h4, _, h5⟩ := dd'
    refine d_write I (by rw [e]; exact True.intro) hs ⟨q, hq⟩ ⟨hl, hd, _, (rel.put k eb rv).keeps fun c ys ec => ?_, q, es, ep, hq, h2, h3, h4, h5⟩
    rw [upd_ne (ne_of ec e (fun z => nomatch z))]
    exact ec
end

section
variable {X : Cx} {pins : List (Addr × Obj)} {σ : St} {H : Hp} {s : Shared} {a : Addr} {kvs : List (Key × V)} {k : Key} {u : Value} {A : Around} {E : Value → Shared → Prop}
end


/-! ### readings and rules -/
/-- the element of a subscription, not a slice -/
def NoSl (i : Expr) : Prop := ∀ ov iv, subscripted i false ov iv = operate [ov, iv] (getItem ov iv)
theorem subD_of {prog : Program} {w : World} {A : Around} {E : Value → Shared → Prop} {s : Shared} {env : Env} {value slice : Expr} {pos : Pos} {T id : String} {Q : Value → Shared → Prop}
    (hl : typeLookup (.type T) "__getitem__" = pure (some (.builtin id))) (hs : NoSl slice)
    (h : wpAny (model prog w) A (eval value env) (fun o s₁ => wpAny (model prog w) A (eval slice env) (fun i s₂ => s₂.TypeIs o T ∧ wpAny (model prog w) A (getItem o i) Q E s₂) E s₁) E s) :
    wpAny (model prog w) A (eval (.Subscript value slice pos) env) Q E s := by
  refine Subscript_ (wpAny_mono h (fun o s₁ h₁ => wpAny_mono h₁ (fun i s₂ h₂ => ?_) fun _ _ x => x) fun _ _ x => x)
  obtain ⟨hT, h₂⟩ := h₂
  unfold subscriptTail
  refine wpAny_bind ?_
  rw [getitemInPython_of_ne hT.not_modules]
  refine wpAny_bind (wpAny_specialOf hT hl ?_)
  have fin : wpAny (model prog w) A (subscripted slice false o i) (fun r s₃ => wpAny (model prog w) A (letTemporaryGo value o r >>= fun _ => pure r) Q E s₃) E s₂ := by
    rw [hs o i]
    exact wpAny_operating (wpAny_mono h₂ (fun r s₃ h₃ => wpAny_bind (wpAny_letTemporaryGo (wpAny_pure h₃))) fun _ _ x => x)
  first
    | exact wpAny_pure (wpAny_bind fin)
    | exact wpAny_bind (wpAny_pure (wpAny_bind fin))
    | exact wpAny_bind fin

theorem dict_typeIs {X : Cx} {pins : List (Addr × Obj)} {σ : St} {H : Hp} {s : Shared} {a : Addr} {y : V} {o : Option V} (I : Inv X pins σ H s) (g : DGet H a y o) : s.TypeIs (.ref a) "dict" := by
  rcases g with ⟨kvs, k, e, _, _⟩ | ⟨kvs, k, b, e, _, _, _⟩
  · obtain ⟨_, _, vs, _, dd⟩ := dk_rd I.hok e
    exact dd.typeIs
  · obtain ⟨_, _, xs, _, dd⟩ := dt_rd I.hok e
    exact dd.typeIs
/-- d[y] -/
def tDGet (td ty : TE) : TE := fun σ H Q => td σ H fun x H1 => ty σ H1 fun y H2 => ∃ a v, x = .ref a ∧ DGet H2 a y (some v) ∧ Q v H2
/-- y in d, y not in d -/
def tDIn (ty td : TE) : TE := fun σ H Q => ty σ H fun y H1 => td σ H1 fun x H2 => ∃ a o, x = .ref a ∧ DGet H2 a y o ∧ Q (.bl o.isSome) H2
def tDNotIn (ty td : TE) : TE := fun σ H Q => ty σ H fun y H1 => td σ H1 fun x H2 => ∃ a o, x = .ref a ∧ DGet H2 a y o ∧ Q (.bl (!o.isSome)) H2
/-- d[y] = v -/
def sDPut (td ty tv : TE) : TS := fun D σ H => tv σ H fun v H1 => td σ H1 fun x H2 => ty σ H2 fun y H3 => ∃ a H4, x = .ref a ∧ DPut H3 a y v H4 ∧ D.nx σ H4
/-- d[y] op= v -/
def sDAug (td ty tv : TE) (rd : V → V → Hp → VK → Prop) : TS := fun D σ H => td σ H fun x H1 => ty σ H1 fun y H2 => ∃ a v, x = .ref a ∧ DGet H2 a y (some v) ∧
  tv σ H2 fun y2 H3 => rd v y2 H3 fun z H4 => ∃ H5, DPut H4 a y z H5 ∧ D.nx σ H5
/-- del d[y] -/
def sDDel (td ty : TE) : TS := fun D σ H => td σ H fun x H1 => ty σ H1 fun y H2 => ∃ a kvs k, x = .ref a ∧ H2 a = some (.dK kvs) ∧ y = kV k ∧ (valV kvs k).isSome = true ∧ D.nx σ (upd H2 a (.dK (dropK kvs k)))

section
variable {X : Cx} {o i e value : Expr} {pos pos' tpos : Pos} {td ty tv : TE}
theorem pe_dget (hu : X.A.units + 1 < cLine) (ho : PE X o td) (hi : PE X i ty) (hs : NoSl i) : PE X (.Subscript o i pos) (tDGet td ty) := by
  intro pins s σ H Q I h
  refine subD_of PySem.F.slot_dict_getitem.lookup hs (thn (ho pins s σ H _ I h) fun u s1 ⟨x, H1, I1, rx, q1⟩ => thn (hi pins s1 σ H1 _ I1 q1) fun iv s2 ⟨y, H2, I2, ry, a, v, ex, g, q2⟩ => ?_)
  subst ex
  obtain rfl : u = Value.ref a := rx
  exact ⟨dict_typeIs I2 g, d_getItem hu I2 g ry fun w' s3 I3 rw' => ⟨v, H2, I3, rw', q2⟩⟩
theorem pc_dnotin (hu : X.A.units + 1 < cLine) (hi : PE X i ty) (ho : PE X o td) : PC X .NotIn i o (tDNotIn ty td) := by
  intro pins s σ H Q I h
  refine thn (hi pins s σ H _ I h) fun iv s1 ⟨y, H1, I1, ry, q1⟩ => thn (ho pins s1 σ H1 _ I1 q1) fun u s2 ⟨x, H2, I2, rx, a, ov, ex, g, q2⟩ => ?_
  subst ex
  obtain rfl : u = Value.ref a := rx
  exact d_notIn hu I2 g ry fun s3 I3 => ⟨.bl (!ov.isSome), H2, I3, rfl, q2⟩
theorem ps_dput (hu : X.A.units + 1 < cLine) (ho : PE X o td) (hi : PE X i ty) (hv : PE X value tv) (hs : swapsWith value (some (.Subscript o i pos')) pos.line X.env = pure false) :
    PS X (.Assign [.Subscript o i pos'] value pos) (sDPut td ty tv) := by
  intro pins s σ H D I h
  refine wpAny_Assign_Subscript (thn (hv pins s σ H _ I h) fun r s1 ⟨v, H1, I1, rv, q1⟩ => thn (ho pins s1 σ H1 _ I1 q1) fun u s2 ⟨x, H2, I2, rx, q2⟩ => thn (hi pins s2 σ H2 _ I2 q2) fun iv s3 ⟨y, H3, I3, ry, a, H4, ex, g, q3⟩ => ?_) hs
  subst ex
  obtain rfl : u = Value.ref a := rx
  exact d_setItem hu I3 g ry rv fun s4 I4 => ⟨σ, H4, I4, q3⟩
end


/-! ### displays -/
theorem dk_empty {P : Program} {w : World} {H : Hp} (h : Heap) (hb : sysModules < h.objs.size) : ObjOk P w H (h.push { cls := .type "dict", data := .dict #[] }) h.objs.size (.dK []) :=
  ⟨Nat.zero_le _, beq_eq_false_iff_ne.mpr (Ne.symm (Nat.ne_of_lt hb)), [], .nil, Heap.DictOf.new h⟩
/-- {}, to be a dict of the kind that is wanted -/
def tDNewK : TE := fun _ H Q => ∀ p, H p = none → Q (.ref p) (upd H p (.dK []))
def tDNewT : TE := fun _ H Q => ∀ p, H p = none → Q (.ref p) (upd H p (.dT []))
section
variable {X : Cx} {pos : Pos}
theorem pe_dnewK : PE X (.Dict [] [] pos) tDNewK := fun pins s σ H Q I h =>
  wpAny_Dict_empty ⟨.ref s.heap.objs.size, _, I.laid (a := s.heap.objs.size) (o := .dK []) (t' := s.toks) (fun _ _ q => Heap.get?_push_of_some _ q) (Nat.le_refl _) (dk_empty s.heap I.big), rfl, h _ (I.hok.fresh (Nat.le_refl _))⟩
end

/-- the pairs of a display, from the left -/
def tPairs : List (TE × TE) → St → Hp → (List (V × V) → Hp → Prop) → Prop
  | [], _, H, Q => Q [] H
  | (tk, tv) :: r, σ, H, Q => tk σ H fun x H1 => tv σ H1 fun y H2 => tPairs r σ H2 fun ps H3 => Q ((x, y) :: ps) H3
abbrev VV : List (V × V) → List (Value × Value) → Prop := Paired fun p q => RelV p.1 q.1 ∧ RelV p.2 q.2
def PPs (X : Cx) (pos : Pos) (keys : List (Option Expr)) (values : List Expr) (trs : List (TE × TE)) : Prop :=
  ∀ (pins : List (Addr × Obj)) (s : Shared) (σ : St) (H : Hp) (Q : List (V × V) → Hp → Prop), Inv X pins σ H s → tPairs trs σ H Q →
    wpAny (model X.prog X.w) X.A (evalPairs (pairTrees keys values X.env pos)) (fun vs s' => ∃ ps H', Inv X pins σ H' s' ∧ VV ps vs ∧ Q ps H') X.xe s
def mergeK (kvs more : List (Key × V)) : List (Key × V) := more.foldl (fun acc kv => putK acc kv.1 kv.2) kvs
/-- {k: v, ..} with keys ints and texts; the new dict stands empty while the pairs are made -/
def tDisp (trs : List (TE × TE)) : TE := fun σ H Q => ∀ p, H p = none → tPairs trs σ (upd H p (.dK [])) fun ps H2 => H2 p = some (.dK []) ∧ ∃ kvs : List (Key × V), ps = kvs.map (fun kv => (kV kv.1, kv.2)) ∧ kvs.length ≤ 15 ∧ Q (.ref p) (upd H2 p (.dK (mergeK [] kvs)))
/-! ### methods -/
/-- a method call o.m(e) of a built-in, with one argument: what must be seen of the text -/
structure M1 (X : Cx) (o : Expr) (m : Str) (apos : Pos) (e : Expr) (cpos : Pos) : Prop where
  base : attributeBase o m X.env (eval o X.env) = eval o X.env
  few : ((backTo cpos (starEach [e] X.env)).all (fun x => !x.1) && (backToKw cpos (keywordEach [] X.env)).all (fun x => x.1.isSome)
    && decide (([e] : List Expr).length + ([] : List Keyword).length + (if ([] : List Keyword).isEmpty then 0 else 1) < 30)) = true
  line : (apos.endLine == cpos.line) = true
  trees : backTo cpos (starEach [e] X.env) = [(false, eval e X.env)]
structure M2 (X : Cx) (o : Expr) (m : Str) (apos : Pos) (e f : Expr) (cpos : Pos) : Prop where
  base : attributeBase o m X.env (eval o X.env) = eval o X.env
  few : ((backTo cpos (starEach [e, f] X.env)).all (fun x => !x.1) && (backToKw cpos (keywordEach [] X.env)).all (fun x => x.1.isSome)
    && decide (([e, f] : List Expr).length + ([] : List Keyword).length + (if ([] : List Keyword).isEmpty then 0 else 1) < 30)) = true
  line : (apos.endLine == cpos.line) = true
  trees : backTo cpos (starEach [e, f] X.env) = [(false, eval e X.env), (false, eval f X.env)]

/-- a is a dict, whatever its keys -/
def IsD (H : Hp) (a : Addr) : Prop := (∃ kvs, Rd H a (.dK kvs)) ∨ ∃ kvs, Rd H a (.dT kvs)
theorem isD_at {X : Cx} {pins : List (Addr × Obj)} {σ : St} {H : Hp} {s : Shared} {a : Addr} (I : Inv X pins σ H s) (d : IsD H a) :
    s.TypeIs (.ref a) "dict" ∧ (∀ b, Value.ref a = .ref b → ∃ ob, s.heap.get? b = some ob ∧ ob.dict = none) ∧ (a == sysModules) = false := by
  rcases d with ⟨kvs, e⟩ | ⟨kvs, e⟩
  · obtain ⟨_, hd, vs, _, dd⟩ := dk_rd I.hok e
    refine ⟨dd.typeIs, fun b q => ?_, hd⟩
    cases q
    obtain ⟨ob, _, _, h1, h2, _⟩ := dd
    exact ⟨ob, h1, h2.2.1⟩
  · obtain ⟨_, hd, xs, _, dd⟩ := dt_rd I.hok e
    refine ⟨dd.typeIs, fun b q => ?_, hd⟩
    cases q
    obtain ⟨ob, _, _, h1, h2, _⟩ := dd
    exact ⟨ob, h1, h2.2.1⟩

section
variable {X : Cx} {pins : List (Addr × Obj)} {σ : St} {H : Hp} {s : Shared} {a : Addr} {y d : V} {u r : Value} {o : Option V} {A : Around} {E : Value → Shared → Prop}
/-- d.get(y, x) -/
theorem d_get2 {Q : Value → Shared → Prop} (hu : A.units + 1 < cLine) (I : Inv X pins σ H s) (g : DGet H a y o) (ry : RelV y u) (rd : RelV d r) (h : ∀ w' s', Inv X pins σ H s' → RelV (o.getD d) w' → Q w' s') :
    wpAny (model X.prog X.w) A (call (.builtin "dict.get") [.ref a, u, r]) Q E s := by
  rcases g with ⟨kvs, k, e, ey, l⟩ | ⟨kvs, k, b, e, ey, eb, l⟩
  · subst ey
    obtain ⟨z, hd, vs, rel, dd⟩ := dk_rd I.hok e
    refine call_meetsIn PySem.F.slot_dict_get dd.typeIs PySem.F.entry_dict_get (PySem.F.args_dict_get_3 _ _ _) (meets_dict_get_default (mixKind X.prog X.w) a (kV_is ry) hd r) ⟨_, dd.mapOf, h _ _ (I.tok _) ?_⟩
    rw [l]
    exact (rel.val k).getD rd
  · subst ey
    cases (show u = Value.ref b from ry)
    obtain ⟨z, hd, xs, rel, dd⟩ := dt_rd I.hok e
    refine call_meetsIn PySem.F.slot_dict_get dd.typeIs PySem.F.entry_dict_get (PySem.F.args_dict_get_3 _ _ _) (meetsH_dict_get_default (tupleKind (mixKind X.prog X.w)) a b hd r) ⟨tupleKind_room_in1 hu, k, xs, key_of I.hok eb, dd, h _ _ (I.tok _) ?_⟩
    rw [l]
    exact (rel.val k).getD rd
end

def tDGet1 (td ty : TE) : TE := fun σ H Q => td σ H fun x H1 => ∃ a, x = .ref a ∧ IsD H1 a ∧ ty σ H1 fun y H2 => ∃ o, DGet H2 a y o ∧ Q (o.getD .non) H2
def tDGet2 (td ty tx : TE) : TE := fun σ H Q => td σ H fun x H1 => ∃ a, x = .ref a ∧ IsD H1 a ∧ ty σ H1 fun y H2 => tx σ H2 fun z H3 => ∃ o, DGet H3 a y o ∧ Q (o.getD z) H3
/-- d.pop(k): there; d.pop(k, x): there or not -/
def tDPop1 (td ty : TE) : TE := fun σ H Q => td σ H fun x H1 => ∃ a, x = .ref a ∧ IsD H1 a ∧ ty σ H1 fun y H2 => ∃ kvs k v, H2 a = some (.dK kvs) ∧ y = kV k ∧ valV kvs k = some v ∧ Q v (upd H2 a (.dK (dropK kvs k)))
def tDPop2 (td ty tx : TE) : TE := fun σ H Q => td σ H fun x H1 => ∃ a, x = .ref a ∧ IsD H1 a ∧ ty σ H1 fun y H2 => tx σ H2 fun z H3 => ∃ kvs k, H3 a = some (.dK kvs) ∧ y = kV k ∧
  (∀ v, valV kvs k = some v → Q v (upd H3 a (.dK (dropK kvs k)))) ∧ (valV kvs k = none → Q z H3)
section
variable {X : Cx} {o e f : Expr} {apos cpos : Pos} {td ty tx : TE}
theorem pe_dget2 (hu : X.A.units + 1 < cLine) (ho : PE X o td) (he : PE X e ty) (hf : PE X f tx) (m : M2 X o "get" apos e f cpos) : PE X (.Call (.Attribute o "get" apos) [e, f] [] cpos) (tDGet2 td ty tx) := by
  intro pins s σ H Q I h
  refine wpAny_Call_method m.base m.few m.line PySem.F.plainAttrs_dict PySem.F.slot_dict_get PySem.F.type_dict_get (thn (ho pins s σ H _ I h) fun u s1 ⟨x, H1, I1, rx, a, ex, d, q1⟩ => ?_)
  subst ex
  obtain rfl : u = Value.ref a := rx
  obtain ⟨t1, t2, _⟩ := isD_at I1 d
  refine ⟨t1, t2, ?_⟩
  rw [m.trees]
  refine Calls.callWith_builtin rfl (Calls.evalArgs_plain (Calls.spliced_cons (thn (he pins s1 σ H1 _ I1 q1) fun iv s2 ⟨y, H2, I2, ry, q2⟩ =>
    Calls.spliced_cons (thn (hf pins s2 σ H2 _ I2 q2) fun fv s3 ⟨z, H3, I3, rz, ov, g, q3⟩ => Calls.spliced_nil ?_))))
  exact d_get2 hu I3 g ry rz fun w' s4 I4 rw' => ⟨_, H3, I4, rw', q3⟩
end

/-! ### dict(d): a copy -/
section
variable {X : Cx} {pins : List (Addr × Obj)} {σ : St} {H : Hp} {s : Shared} {a : Addr} {kvs : List (Key × V)} {A : Around} {E : Value → Shared → Prop}
end


section
variable {X : Cx} {pins : List (Addr × Obj)} {σ : St} {H : Hp} {s : Shared} {a : Addr} {y : V} {u : Value} {A : Around} {E : Value → Shared → Prop}
end
end L2

namespace Att
open PySem PySem.W PySem.Calls PyProof.Rows

/-! ### the script -/
theorem ints_of_wellAll {P : Params} {h : Heap} : ∀ (ns : List Int) (vs : List Value), WellAll P h vs (ns.map WData.int) → IntsAre vs ns := by
  intro ns
  induction ns with
  | nil =>
    intro vs w
    rw [List.map_nil] at w
    cases w
    exact .nil
  | cons n ns ih =>
    intro vs w
    rw [List.map_cons] at w
    cases w with
    | cons a b =>
      cases a
      exact .cons _ _ (ih _ b)

theorem script_of {l : OpenLaw} {n : Nat} (hn : l.most = some n) {P : Params} {h : Heap} {args : List WData} {vals : List Value}
    (hpre : l.row.toRowW.claim.pre args = true) (hwl : WellAll P h vals args) :
    ∃ a vs ns, vals = [Value.ref a] ∧ args = [WData.list (ns.map WData.int)] ∧ h.get? a = some { cls := .type "list", data := .seq vs.toArray } ∧ IntsAre vs ns ∧ ns.length ≤ n := by
  have hsh : WShape.hasAll [] args [.list .int] = true := (pre_splitW hpre).1
  have hc : l.pre.holds [] { args := args } = true := (pre_splitW hpre).2
  obtain ⟨d, r, rfl, h1, h2⟩ := hasAllW_cons hsh
  obtain rfl := hasAllW_nil h2
  obtain ⟨xs, rfl, h3⟩ := hasW_list h1
  obtain ⟨ns, rfl⟩ := items_int h3
  have hlen : ns.length ≤ n := by
    unfold OpenLaw.pre at hc
    have h4 : (WTm.not (.lt (.lit (.int (n : Int))) (.len (.arg 0)))).holds [] { args := [.list (ns.map .int)] } = true := by
      have h4 := (holds_andW hc).1
      rw [hn] at h4
      exact h4
    have h5 := condW_of h4 (w_not (w_lt w_lit (w_len_list (w_arg rfl))))
    rw [List.length_map] at h5
    refine Nat.le_of_not_lt fun q => ?_
    have q' : (n : Int) < ((ns.length : Nat) : Int) := by omega
    first
      | (rw [decide_eq_true q'] at h5; exact absurd h5 (by decide))
      | (simp at h5; omega)
  cases hwl with
  | cons w1 w2 =>
    cases w2
    cases w1 with
    | list ho hall => exact ⟨_, _, ns, rfl, rfl, ho, ints_of_wellAll ns _ hall, hlen⟩

theorem post_true (l : OpenLaw) (args : List WData) : l.row.toRowW.claim.post args (.bool true) args = true :=
  postW_of (r := l.row.toRowW) (X := (true == true))
    (show WShape.has [] (.bool true) .bool = true by first | rfl | decide | simp [WShape.has, WShape.arms, WShape.armsAll])
    (show (WTm.eq .res (.lit (.bool true))).value [] { args := args, res := some (.bool true), after := args } = some (.bool (true == true)) from w_eq_bool (w_res rfl) w_lit) rfl

/-! ### the attachment: holds_open's last premise (the goal 'hc' behind k_head) from a wpAny of the law's body -/
/-- the same from a codeAny of the CALL (for a layer whose function contracts speak of calls) -/
theorem attach_call {l : OpenLaw} {n : Nat} {q : Program} {loose : List Str} {XP : (Str → Option Value) → Heap → Prop} {YP : World → Heap → Prop} {d : DefRec}
    (hn : l.most = some n) (hdf : d.params.defaults = [])
    (call : ∀ (w : World) (s₀ s₁ : Shared) (mg mb : Str → Option Value) (fa : Addr) (o : Obj) (pm cd doc : Value) (a : Addr) (vs : List Value) (ns : List Int),
      Ground q loose [] XP w s₀ mg mb s₁.heap → YP w s₁.heap →
      s₁.heap.get? fa = some o → o.data = .func (docDef d.name d.params d.body d.scope pm cd doc) → s₁.heap.CodeRec cd d.name → mg d.name = some (.ref fa) →
      s₁.heap.get? a = some { cls := .type "list", data := .seq vs.toArray } → IntsAre vs ns → ns.length ≤ n → s₁.gens = #[] →
      codeAny (model l.prog w) callerA (.call (.ref fa) ⟨[.ref a], []⟩) (fun r s' => r = .ok (.ret (.bool true)) ∧ OldK s₁.heap s'.heap ∧ s'.os = s₁.os ∧ AllBare s'.gens) s₁) :
    WalkO q loose XP YP l.row.toRowW d [] (fun f vs => PySem.call f vs) := by
  intro w s₀ s₁ mg mb G Y fa o pm cd doc dV kV ho hd hcd hD hmg hg args vals as hpre hlay hrd hwl hlo
  obtain rfl : dV = .none := Dflts.none hD hdf
  obtain rfl : kV = .none := Dflts.noKw hD
  obtain ⟨a, vs, ns, rfl, rfl, hobj, hints, hlen⟩ := script_of hn hpre hwl
  refine enter_call (codeAny_mono (call w s₀ s₁ mg mb fa o pm cd doc a vs ns G Y ho (fd_plain hd) hcd hmg hobj hints hlen hg) fun r s' hq => ?_)
  obtain ⟨rfl, h2, h3, h4⟩ := hq
  exact ⟨.inl ⟨.bool true, .bool true, [], rfl, fun _ => rfl, .bool true, post_true l _, fun _ => ⟨List.Pairwise.nil, fun _ hm => (nomatch hm)⟩⟩, h2, h3, h4⟩

/-! ### rules over ANY heap (no ledger) from facts about the written part K: the library's own take a ledger (News) for what they write -/
section
variable {prog : Program} {w : World} {A : Around} {E : Value → Shared → Prop} {s : Shared} {K : Frag}

/-! the whole heap as the ledger: makes every rule that writes through a ledger a rule over any heap -/
def noObjs (h : Heap) : Heap := { h with objs := #[] }
def ledger (h : Heap) (L d : Addr) : List (Addr × Obj) := (List.range h.objs.size).filterMap fun a => if a = L ∨ a = d then none else (h.get? a).map fun o => (a, o)
end
end Att

namespace L2
open PySem PySem.Spec PyProof.Rows

theorem vals_ints : ∀ {vs : List Value} {ns : List Int}, IntsAre vs ns → Vals (ns.map V.int) vs
  | _, _, .nil => .nil
  | _, _, .cons n t h => .cons ⟨t, rfl⟩ (vals_ints h)

/-- nothing is tracked but the script, known to the object (or it is an object of the module) -/
def Only (H : Hp) : Prop := ∀ b, H b = none ∨ ∃ o xs, H b = some (.frz o (.lst xs))

/-- THE HEAD: the law's promise, at the heap behind the top. F, the promise of the law's def, may use that base is part of the heap (so K.In base, base.Ns mainGlobals mg stand in Mod) -/
theorem law_call {P : Program} {w : World} {K : PySem.W.Frag} {mg mb : Str → Option Value} {CX : CXT} {k : Nat} {fa a : Addr} {fd : FuncData} {x : Str} {sp : Sp} {s₁ : Shared} {vs : List Value} {ns : List Int}
    (KX : K.In s₁.heap) (hns : s₁.heap.Ns mainGlobals mg) (hb : s₁.heap.Ns builtinsNs mb) (hbb : ∀ x : Str, x ≠ "__name__" → mb x = bootBuiltins x) (hlim : s₁.heap.NoLimit) (hg : s₁.gens = #[])
    (ha : s₁.heap.get? a = some { cls := .type "list", data := .seq vs.toArray }) (hi : IntsAre vs ns) (hl : ns.length ≤ sizeLine) (hr : Room k callerA)
    (F : ∀ base : Heap, K.In base → base.Ns mainGlobals mg → FnOk P w K mg base CX k fa fd [x] sp) (hbind : ∀ (s : Shared) (u : Value), BindsTo s fd ⟨[u], []⟩ [(x, u)])
    (hsp : ∀ H : Hp, Only H → SqL K H a (ns.map V.int) → sp [.ref a] H (fun v _ => v = .bl true) fun _ _ _ => False)
    (hCX : ∀ H e s', CX [] H s₁ (fun _ _ _ => False) e s' → False) :
    codeAny (model P w) callerA (.call (.ref fa) ⟨[.ref a], []⟩) (fun r s' => r = .ok (.ret (.bool true)) ∧ OldK s₁.heap s'.heap ∧ s'.os = s₁.os ∧ AllBare s'.gens) s₁ := by
  have rv := vals_ints hi
  have lenV := hi.length
  -- from an abstract heap in which nothing but the script may be tracked
  have core : ∀ H : Hp, Only H → SqL K H a (ns.map V.int) → HOk P w H s₁.heap → (∀ b, H b ≠ none → b = a) → (H a ≠ none → K.lookup a = none) →
      codeAny (model P w) callerA (.call (.ref fa) ⟨[.ref a], []⟩) (fun r s' => r = .ok (.ret (.bool true)) ∧ OldK s₁.heap s'.heap ∧ s'.os = s₁.os ∧ AllBare s'.gens) s₁ := by
    intro H hO hS hok hA hK
    have base_of : ∀ {b : Addr} {o : Obj}, s₁.heap.get? b = some o → H b = none → (hidT s₁.heap H).get? b = some o := fun e n => hidT_get e n
    have noA : ∀ {b : Addr} {o : Obj} {es : Array DictEntry} {ep : Nat}, s₁.heap.get? b = some o → o.data = .dict es ep → H b = none := fun {b o es ep} e d => by
      cases q : H b with
      | none => rfl
      | some u =>
        have e' : b = a := hA b (by rw [q]; simp)
        subst e'
        rw [ha] at e; cases e
        have d' : Data.seq vs.toArray _ = Data.dict es ep := d
        cases d'
    have nsK : ∀ {b : Addr} {m : Str → Option Value}, s₁.heap.Ns b m → (hidT s₁.heap H).Ns b m := fun {b m} ⟨o, es, ep, e, d, r⟩ => ⟨o, es, ep, base_of e (noA e d), d, r⟩
    have hKb : K.In (hidT s₁.heap H) := fun b o e => base_of (KX b o e) (by
      cases q : H b with
      | none => rfl
      | some u =>
        have e' : b = a := hA b (by rw [q]; simp)
        subst e'
        rw [hK (by rw [q]; simp)] at e; cases e)
    have hM : Mod K mg (hidT s₁.heap H) := ⟨hKb, nsK hns, ⟨mb, nsK hb, hbb⟩, let ⟨mc, h1, h2⟩ := hlim; ⟨mc, nsK h1, h2⟩⟩
    have e0 : Env0 P w K mg (hidT s₁.heap H) callerA [] s₁ H := ⟨rfl, hM, fun b o e => of_hidT e, Nat.le_of_eq (hidT_size _ _), trivial, fun b hb => absurd (show b ∈ ([] : List Addr) from hb) (by simp), hok, .of_eq hg⟩
    refine codeAny_mono ((F _ hKb (nsK hns)).run callerA [] s₁ H ⟨[.ref a], []⟩ [.ref a] [.ref a] _ _ hr e0 (hbind s₁ (.ref a)) (.cons rfl .nil) (hsp H hO hS)) fun r s' h => ?_
    cases r with
    | error e => exact (hCX H e s' h).elim
    | ok fl =>
      cases fl with
      | next => exact False.elim h
      | brk => exact False.elim h
      | cont => exact False.elim h
      | ret u =>
        obtain ⟨v, H', os, bare, un, hok', r', q⟩ := h
        have q' : v = .bl true := q
        subst q'
        obtain rfl : u = Value.bool true := r'
        refine ⟨rfl, OldK.of_keep fun b o e => ?_, os, bare⟩
        cases q : H b with
        | none => exact un.keep b o e q (by intro z; exact absurd (show b ∈ ([] : List Addr) from z) (by simp)) (by simp)
        | some u =>
          rcases hO b with z | ⟨ob, xs, z⟩
          · rw [q] at z; cases z
          · have z2 := un.frzs b ob _ z
            obtain ⟨e1, _⟩ := hok b _ z
            obtain ⟨e2, _⟩ := hok' b _ z2
            rw [e] at e1; cases e1
            exact e2
  cases hk : K.lookup a with
  | some o =>
    -- the script is one of the module's own objects
    have e := KX a o hk
    rw [ha] at e
    cases e
    refine core (fun _ => none) (fun _ => .inl rfl) (.inr ⟨_, vs.toArray, _, hk, rfl, rfl, rfl, by rw [List.size_toArray, lenV]; exact hl, by simpa using rv⟩) (fun b u z => by have z' : (none : Option HO) = some u := z; cases z') (fun b z => absurd rfl z) fun z => absurd rfl z
  | none =>
    refine core (fun b => if b = a then some (.frz { cls := .type "list", data := .seq vs.toArray } (.lst (ns.map V.int))) else none) (fun b => ?_) (.inl (.inr ⟨{ cls := .type "list", data := .seq vs.toArray }, if_pos rfl⟩)) (fun b u z => ?_) (fun b z => ?_) fun _ => hk
    · by_cases hb : b = a
      · exact .inr ⟨_, _, if_pos hb⟩
      · exact .inl (if_neg hb)
    · by_cases hb : b = a
      · have z' := (if_pos hb).symm.trans z
        cases z'
        subst hb
        exact ⟨ha, by rw [List.length_map]; exact hl, vs, _, rv, ha⟩
      · have z' := (if_neg hb).symm.trans z
        cases z'
    · by_cases hb : b = a
      · exact hb
      · exact absurd (if_neg hb) z
end L2

namespace L2
open PySem PySem.Spec PyProof.Rows

abbrev KOf {K : PySem.W.Frag} {h : Heap} (_ : K.In h) : PySem.W.Frag := K

/-- the goal that k_head leaves (case hc), from the law's promise. F gives the function object fd (K's own) once, then the promise over every base -/
theorem walk_of {l : PySem.W.OpenLaw} {n k : Nat} {q : Program} {loose : List Str} {XP : (Str → Option Value) → Heap → Prop} {YP : World → Heap → Prop} {d : DefRec} {K : Params → PySem.W.Frag} {CX : World → CXT} {sp : World → Sp} {x : Str}
    (hn : l.most = some n) (hn2 : n ≤ sizeLine) (hdf : d.params.defaults = []) (hr : Room k callerA)
    (hY : ∀ (w : World) (h : Heap), YP w h → (K w.params).In h)
    (F : ∀ (w : World) (mg : Str → Option Value) (fa : Addr) (h : Heap), (K w.params).In h → h.Ns mainGlobals mg → mg d.name = some (.ref fa) →
      ∃ fd : FuncData, (∀ (s : Shared) (u : Value), BindsTo s fd ⟨[u], []⟩ [(x, u)]) ∧
        ∀ base : Heap, (K w.params).In base → base.Ns mainGlobals mg → FnOk l.prog w (K w.params) mg base (CX w) k fa fd [x] (sp w))
    (hsp : ∀ (w : World) (H : Hp) (a : Addr) (ns : List Int), ns.length ≤ n → Only H → SqL (K w.params) H a (ns.map V.int) → sp w [.ref a] H (fun v _ => v = .bl true) fun _ _ _ => False)
    (hCX : ∀ (w : World) (H : Hp) (s : Shared) (e : Value) (s' : Shared), CX w [] H s (fun _ _ _ => False) e s' → False) :
    PySem.W.WalkO q loose XP YP l.row.toRowW d [] (fun f vs => PySem.call f vs) := by
  refine Att.attach_call hn hdf fun w s₀ s₁ mg mb fa o pm cd doc a vs ns G Y ho hd hcd hmg hobj hints hlen hg => ?_
  have KX := hY w _ Y
  obtain ⟨fd, hb, hF⟩ := F w mg fa _ KX G.T.g hmg
  exact law_call KX G.T.g G.T.b G.T.builtins G.T.nolimit hg hobj hints (Nat.le_trans hlen hn2) hr hF hb (fun H hO hS => hsp w H a ns hlen hO hS) fun H e s' => hCX w H s₁ e s'
end L2

/- THE LAST THEOREM (shape; LID, My.* are yours):
   My.Adr: a structure of the addresses that your layer names (classes, functions); My.Txt K t: a structure (Prop) of the equations over K;
   My.txt_mk : {K} {implicit addresses ..} (e1 : nsIn K mainGlobals "law" = some (some (.ref f))) (e2 : K.lookup f = some ⟨oc, od, .func (fnOf "law" "law" params body scope dV kV doc pm an cdv ct), sl⟩) (e3 : codeIn K cdv "law" = true) .. : ∃ t, My.Txt K t

set_option maxRecDepth 100000 in
set_option maxHeartbeats 0 in
theorem PySem.Challenge.cw_LID_holds : PySem.Challenge.rw_LID.Holds := by
  w_on; o_law; k_head; (case hw => w_witness2)
  k_fill
  refine L2.walk_of (l := PySem.Challenge.rw_LID) (n := 63) (k := 40) (x := "script") (CX := fun w => ..) (sp := fun _ => My.sp_law) rfl (by decide) rfl ⟨rfl, by decide, by decide⟩ (fun w h Y => PySem.W.kIn_of Y) ?F ?S ?C
  case F =>
    intro w mg fa h KX G hmg
    have T : ∃ t, My.Txt (L2.KOf KX) t := by
      dsimp only [L2.KOf]                          -- K must stand as «<heap const> w.params» for k_is
      refine' My.txt_mk ?e1 ?e2 ?e3 ..
      (case e1 => PySem.W.k_is)                    -- in the order: a name -> its address -> its object -> its parts
      (case e2 => PySem.W.k_is)
      ..
    obtain ⟨t, T⟩ := T
    have e0 := hmg.symm.trans (PySem.W.mg_of KX G T.law)
    cases e0                                       -- fa is the law's own address
    exact ⟨_, fun s u => .of_eq rfl, fun base kb nb => My.law_fn T kb nb⟩     -- if «.of_eq rfl» comes too early: refine' ⟨_, ?b, fun base kb nb => My.law_fn T kb nb⟩; exact fun s u => .of_eq rfl
  case S => exact fun w H a ns hl hO hS => ..
  case C => exact ..
(the tactic k_is has no namespace: write k_is) -/

/-! SHORT WORDS over the layer: a def of the text, its body, what a loop and a test want. -/
namespace L2
open PySem PySem.Spec PyProof.Rows

/-! ### the text by places -/
/-- the j-th statement of a class's body -/
def inClass (s : Stmt) (j : Nat) : Stmt := match s with
  | .ClassDef _ _ _ body _ _ _ _ _ _ _ => body.getD j (.Pass ⟨0, 0, 0, 0⟩)
  | _ => .Pass ⟨0, 0, 0, 0⟩
def defArgs (s : Stmt) : Arguments := match s with
  | .FunctionDef _ a _ _ _ _ _ _ _ _ => a
  | _ => { posonlyargs := [], args := [], vararg := none, kwonlyargs := [], kw_defaults := [], kwarg := none, defaults := [] }
def defBody (s : Stmt) : List Stmt := match s with
  | .FunctionDef _ _ b _ _ _ _ _ _ _ => b
  | _ => []
def defScope (s : Stmt) : Scope := match s with
  | .FunctionDef _ _ _ _ _ _ sc _ _ _ => sc
  | _ => { kind := .function, names := [], isGenerator := false, isCoroutine := false }

/-! ### no exception leaves a def -/
abbrev CX0 : CXT := fun _ _ _ _ _ _ => False
abbrev E0 : XK := fun _ _ _ => False
theorem pass0 {X : Cx} : Passes CX0 X E0 := fun _ _ _ _ _ _ _ h => h.elim

/-! ### a def (or method) of the text as it stands behind the top -/
structure Fun (K : PySem.W.Frag) (x qual : Str) (st : Stmt) (f : Addr) (fd : FuncData) : Prop where
  ex : ∃ (oc : Value) (od : Option Addr) (kV doc pm : Value) (an : Option Addr) (cdv ct : Value) (osl : Array (Option Value)),
    fd = PySem.W.fnOf x qual (defArgs st) (defBody st) (defScope st) .none kV doc pm an cdv ct ∧ K.lookup f = some ⟨oc, od, .func fd, osl⟩ ∧ PySem.W.codeIn K cdv qual = true
  kp : PySem.W.keepIn K (.ref f) = true
section
variable {P : Program} {w : World} {K : PySem.W.Frag} {mg : Str → Option Value} {base : Heap}
/-- THE RULE for a def: its body as a term of rules, and the reading of that term -/
theorem Fun.ok {x qual : Str} {st : Stmt} {f : Addr} {fd : FuncData} {N ps : List Str} {k : Nat} {sp : Sp} (F : Fun K x qual st f fd) (S : FnScope N ps (defScope st)) (len : ∀ vs H Q E, sp vs H Q E → vs.length = ps.length)
    (hbody : ∀ (cdv : Value) (A : Around) (outer : List Env) (s : Shared) (H : Hp) (vs : List V) (Q : VK) (E : XK), Room k (A.deeper (envOfC qual (defScope st) s.heap.objs.size f cdv)) → sp vs H Q E →
      ∃ t, PSs (cxOf CX0 P w K mg base N qual (defScope st) f cdv A outer s H E).nox (defBody st) t ∧ t { nx := fun _ H' => Q .non H', rt := Q } (start N vs) H) : FnOk P w K mg base CX0 (k + 1) f fd ps sp := by
  obtain ⟨oc, od, kV, doc, pm, an, cdv, ct, osl, rfl, lk, hcd⟩ := F.ex
  refine fn_of lk hcd S len fun A outer s H vs Q E hr hsp => ?_
  obtain ⟨t, h, q⟩ := hbody cdv A outer s H vs Q E hr hsp
  exact ⟨t, h.nox, q⟩
/-- how its arguments bind (no defaults): h is «fun _ _ _ _ _ _ us hl => match us, hl with | [_, _], _ => rfl», one _ a parameter -/
theorem Fun.binds {x qual : Str} {st : Stmt} {f : Addr} {fd : FuncData} {ps : List Str} (F : Fun K x qual st f fd)
    (h : ∀ (kV doc pm : Value) (an : Option Addr) (cdv ct : Value) (us : List Value), us.length = ps.length → bindArgs (PySem.W.fnOf x qual (defArgs st) (defBody st) (defScope st) .none kV doc pm an cdv ct) ⟨us, []⟩ = pure (ps.zip us)) : Binds K fd ps [] := by
  obtain ⟨oc, od, kV, doc, pm, an, cdv, ct, osl, rfl, lk, hcd⟩ := F.ex
  exact .all (h kV doc pm an cdv ct)
theorem fun_mk {x qual : Str} {st : Stmt} {f : Addr} {oc : Value} {od an : Option Addr} {osl : Array (Option Value)} {kV doc pm cdv ct : Value} (l : K.lookup f = some ⟨oc, od, .func (PySem.W.fnOf x qual (defArgs st) (defBody st) (defScope st) .none kV doc pm an cdv ct), osl⟩)
    (c : PySem.W.codeIn K cdv qual = true) (k : PySem.W.keepIn K (.ref f) = true) : Fun K x qual st f (PySem.W.fnOf x qual (defArgs st) (defBody st) (defScope st) .none kV doc pm an cdv ct) := ⟨⟨oc, od, kV, doc, pm, an, cdv, ct, osl, rfl, l, c⟩, k⟩
end
theorem hu_of {A : Around} {k : Nat} (hr : Room k A) : A.units + 1 < cLine := Nat.lt_of_le_of_lt (Nat.add_le_add_left (by decide : 1 ≤ 64) _) hr.units
theorem small1000 {n : Nat} (h : n ≤ 1000) : n < sizeLine := Nat.lt_of_le_of_lt h (by decide)

/-! ### expressions in short: the name that stands in the i-th slot -/
section
variable {X : Cx}
theorem pv (i : Nat) {x : Str} {pos : Pos} (hN : X.N[i]? = some x := by rfl) (hv : Vis X.env.scope x := by first | exact Or.inl rfl | exact Or.inr (Or.inl rfl) | exact Or.inr (Or.inr rfl)) (hd : (x == ("__debug__" : Str)) = false := by decide)
    (hcd : (x == ("__classdict__" : Str)) = false := by decide) : PE X (.Name x pos) (tVar i) := pe_var hN hv hd hcd
end

/-! ### tests -/
theorem iteF {A B : Prop} (h : B) : if false = true then A else B := by
  rw [if_neg Bool.false_ne_true]
  exact h
theorem iteT {A B : Prop} (h : A) : if true = true then A else B := by
  rw [if_pos rfl]
  exact h
theorem ite2 {c A B : Prop} [Decidable c] (h1 : c → A) (h2 : ¬ c → B) : if c then A else B := by
  by_cases h : c
  · rw [if_pos h]
    exact h1 h
  · rw [if_neg h]
    exact h2 h
/-! ### heaps -/
/-- all that was tracked is as it was -/
def Same (H H' : Hp) : Prop := ∀ b o, H b = some o → H' b = some o
theorem Same.refl (H : Hp) : Same H H := fun _ _ h => h
theorem Same.trans {H H1 H2 : Hp} (a : Same H H1) (b : Same H1 H2) : Same H H2 := fun c o h => b c o (a c o h)
theorem Same.free {H H' : Hp} (e : Same H H') {l : Addr} (h : H' l = Option.none) : H l = Option.none := by
  cases q : H l with
  | none => rfl
  | some o =>
    rw [e l o q] at h
    cases h
theorem Same.seq {K : PySem.W.Frag} {H H' : Hp} {a : Addr} {xs : List V} (e : Same H H') (h : SqL K H a xs) : SqL K H' a xs := by
  rcases h with (h | ⟨o, h⟩) | h
  · exact .inl (.inl (e _ _ h))
  · exact .inl (.inr ⟨o, e _ _ h⟩)
  · exact .inr h

end L2

namespace L2
open PySem PySem.Spec PyProof.Rows
section
variable {X : Cx}
end
/-! ### a dict's pairs: keys that differ -/
section
variable {κ : Type} [DecidableEq κ]
end
end L2


set_option Elab.async false
set_option linter.all false
set_option maxRecDepth 100000
/-! a comprehension's block over the hand layer -/
namespace L2
open PySem PySem.Spec PyProof.Rows

/-- the block's own context -/
def lcx (X : Cx) (N' : List Str) (scope : Scope) (cl : List (Str × Addr)) (C : Addr) (s₀ : Shared) (H₀ : Hp) (ex : List Addr) : Cx :=
  { prog := X.prog, w := X.w, K := X.K, mg := X.mg, base := X.base, A := X.A, N := N', s₀ := s₀, H₀ := H₀, env := compEnvC scope cl C X.env, outer := X.stack, stack := X.stack, ex := ex, fn := fun _ => false, calm := X.calm, pn := [], xe := fun _ _ => False }

/-- which slot of the block is which slot outside -/
abbrev Cap := List (Option Nat)
def inn (js : Cap) (σ : St) : St := js.map fun o => o.bind fun j => (σ[j]?).join

/-! ### the captured cells -/
def freeOf (scope : Scope) (x : Str) : Bool := scope.names.any fun p => decide (p.1 = x) && (p.2 == .free)

theorem clos_go {env : Env} (has : ∀ x, (env.kindOf x = some .cell ∨ env.kindOf x = some .free) → ∃ c, env.cells.lookup x = some c) :
    ∀ (names : List (Str × NameKind)) (acc : List (Str × Addr)), (∀ p ∈ names, p.2 = .free → env.kindOf p.1 = some .cell ∨ env.kindOf p.1 = some .free) → (∀ x c, acc.lookup x = some c → env.cells.lookup x = some c) →
      ∃ cl, (forIn names acc (fun (p : Str × NameKind) (cs : List (Str × Addr)) => (do
          if p.2 == NameKind.free then
            let c ← cellOf env p.1
            pure (ForInStep.yield ((p.1, c) :: cs))
          else pure (ForInStep.yield cs) : Sem (ForInStep (List (Str × Addr)))))) = pure cl ∧ (∀ x c, cl.lookup x = some c → env.cells.lookup x = some c) ∧
        (∀ x, (acc.lookup x).isSome = true → (cl.lookup x).isSome = true) ∧ ∀ p ∈ names, p.2 = .free → (cl.lookup p.1).isSome = true := by
  intro names
  induction names with
  | nil => intro acc _ ha; exact ⟨acc, rfl, ha, fun _ h => h, fun _ h => nomatch h⟩
  | cons p r ih =>
    intro acc hn ha
    obtain ⟨n, k⟩ := p
    rw [List.forIn_cons]
    by_cases hk : k = .free
    · subst hk
      obtain ⟨c, hc⟩ := has n (hn (n, .free) List.mem_cons_self rfl)
      have e : cellOf env n = (pure c : Sem Addr) := by
        unfold cellOf
        rw [hc]
      obtain ⟨cl, h1, h2, h3, h4⟩ := ih ((n, c) :: acc) (fun q hq => hn q (List.mem_cons_of_mem _ hq)) (fun x c' hx => by
        rw [List.lookup_cons] at hx
        cases hb : x == n with
        | true =>
          rw [hb] at hx
          cases hx
          rw [show x = n from eq_of_beq hb]
          exact hc
        | false =>
          rw [hb] at hx
          exact ha x c' hx)
      refine ⟨cl, ?_, h2, fun x hx => h3 x ?_, fun q hq hf => ?_⟩
      · simp only [beq_self_eq_true, if_true, e]
        exact h1
      · rw [List.lookup_cons]
        cases hb : x == n with
        | true => rfl
        | false => exact hx
      · rcases List.mem_cons.mp hq with rfl | hq
        · exact h3 _ (by simp [List.lookup_cons])
        · exact h4 q hq hf
    · have hb : (k == NameKind.free) = false := by simpa using hk
      obtain ⟨cl, h1, h2, h3, h4⟩ := ih acc (fun q hq => hn q (List.mem_cons_of_mem _ hq)) ha
      refine ⟨cl, ?_, h2, h3, fun q hq hf => ?_⟩
      · simp only [hb, Bool.false_eq_true, if_false]
        exact h1
      · rcases List.mem_cons.mp hq with rfl | hq
        · exact absurd hf hk
        · exact h4 q hq hf
theorem clos_of {env : Env} {scope : Scope} (has : ∀ x, (env.kindOf x = some .cell ∨ env.kindOf x = some .free) → ∃ c, env.cells.lookup x = some c)
    (hn : ∀ p ∈ scope.names, p.2 = .free → env.kindOf p.1 = some .cell ∨ env.kindOf p.1 = some .free) :
    ∃ cl, closureFor scope env = pure cl ∧ (∀ x c, cl.lookup x = some c → env.cells.lookup x = some c) ∧ ∀ p ∈ scope.names, p.2 = .free → (cl.lookup p.1).isSome = true := by
  obtain ⟨cl, h1, h2, _, h4⟩ := clos_go has scope.names [] hn (fun _ _ h => nomatch h)
  refine ⟨cl, ?_, h2, h4⟩
  unfold closureFor
  show (do let cs ← forIn scope.names [] _; pure cs) = _
  refine Eq.trans ?_ h1
  simp only [bind_pure]
end L2

set_option Elab.async false
set_option linter.all false
set_option maxRecDepth 100000
namespace L2
open PySem PySem.Spec PyProof.Rows

section
variable {prog : Program} {w : World} {A : Around} {E : Value → Shared → Prop} {R : Result → Shared → Prop} {s : Shared}
/-- a comprehension's loop, whatever its target and iterator -/
theorem compLoop_go {elt target iter : Expr} {ifs : List Expr} {scope : Scope} {pos : Pos} {it acc : Value} {env : Env} (I : Nat → Shared → Prop)
    (turn : ∀ n s, I n s → wpAny (model prog w) A (pyNext it) (fun r s₁ => match r with
      | none => R (.ok .next) s₁
      | some v => wpAny (model prog w) A (letOwnedTupleGo target it v) (fun _ s₁' => wpAny (model prog w) A (assign target env v) (fun _ s₂ =>
          wpAny (model prog w) A (forIn ifs true fun c r => if r = true then do let ok ← isTrue c env (eval c env); pure (ForInStep.yield ok) else pure (ForInStep.yield r)) (fun ok s₃ =>
            if ok = true then wpAny (model prog w) A (eval elt env) (fun x s₄ =>
              wpAny (model prog w) A (call (.builtin "list.append") [acc, x]) (fun _ s₅ => ∃ m, m < n ∧ I m s₅) (fun _ _ => False) s₄) (fun _ _ => False) s₃
            else ∃ m, m < n ∧ I m s₃) (fun _ _ => False) s₂) (fun _ _ => False) s₁') (fun _ _ => False) s₁) (fun _ _ => False) s)
    (n : Nat) (h : I n s) :
    codeAny (model prog w) A (.compLoop (.ListComp elt [⟨target, iter, ifs, 0⟩] scope pos) 0 it acc env) R s := by
  refine codeAny_loop rfl I (fun n s hI => ?_) n h
  show wpAny _ A ((compTurn (.ListComp elt [⟨target, iter, ifs, 0⟩] scope pos) 0 it acc env).onRaise (fun x => do noteFrame x env; theTreesLotGoes x)) _ _ s
  refine wpAny_noted ?_
  rw [compTurn_list]
  refine wpAny_bind (wpAny_standAt (wpAny_bind (wpAny_mono (turn n s hI) (fun r s₁ h₁ => ?_) fun _ _ h' => h'.elim)))
  cases r with
  | none => exact wpAny_pure h₁
  | some v =>
    refine wpAny_bind (wpAny_mono h₁ (fun _ s₁' h₁' => ?_) fun _ _ h' => h'.elim)
    refine wpAny_bind (wpAny_mono h₁' (fun _ s₂ h₂ => wpAny_bind (wpAny_mono h₂ (fun ok s₃ h₃ => ?_) fun _ _ h' => h'.elim)) fun _ _ h' => h'.elim)
    cases ok with
    | false => exact wpAny_pure ⟨rfl, h₃⟩
    | true =>
      exact wpAny_bind (wpAny_bind (wpAny_mono h₃ (fun x s₄ h₄ => wpAny_bind (wpAny_mono h₄ (fun _ s₅ h₅ => wpAny_pure (wpAny_pure ⟨rfl, h₅⟩)) fun _ _ h' => h'.elim)) fun _ _ h' => h'.elim))
end

/-! ### the tests of a comprehension -/
def PIfs (X : Cx) (ifs : List Expr) (t : TT) : Prop :=
  ∀ (pins : List (Addr × Obj)) (s : Shared) (σ : St) (H : Hp) (Q : Bool → Hp → Prop), Inv X pins σ H s → t σ H Q →
    wpAny (model X.prog X.w) X.A (forIn ifs true fun c r => if r = true then do let ok ← isTrue c X.env (eval c X.env); pure (ForInStep.yield ok) else pure (ForInStep.yield r)) (TP X pins σ Q) X.xe s
def tYes : TT := fun _ H Q => Q true H
theorem pifs_nil {X : Cx} : PIfs X [] tYes := fun _ _ _ H _ I h => wpAny_tests_nil ⟨H, I, h⟩
theorem pifs_one {X : Cx} {c : Expr} {t : TT} (h : PT X c t) : PIfs X [c] t := fun pins s σ H Q I hw => wpAny_tests_one (h pins s σ H Q I hw)

/-- what is read of a comprehension: W by the turn, a measure, the block's slots, the list so far -/
def LcGoal (J : It) (p : Addr) (js : Cap) (g : TG) (tc : TT) (te : TE) (σ : St) (H : Hp) (Q : VK) : Prop :=
  ∃ W : Nat → Nat → St → List V → Hp → Prop, (∃ m, W 0 m (inn js σ) [] (upd H p (.lst []))) ∧ ∀ i m σ' ys H, W i m σ' ys H → H p = some (.lst ys) ∧
    ((J.stop i H ∧ Q (.ref p) H) ∨ (J.go i H ∧ ys.length < sizeLine ∧ ∀ x H', J.yld i H x H' → g x σ' H' fun σ2 H2 => tc σ2 H2 fun b H3 =>
      if b = true then te σ2 H3 fun y H4 => H4 p = some (.lst ys) ∧ ∃ m', m' < m ∧ W (i + 1) m' σ2 (ys ++ [y]) (upd H4 p (.lst (ys ++ [y])))
      else ∃ m', m' < m ∧ W (i + 1) m' σ2 ys H3))
def tLC (wi : TI) (js : Cap) (g : TG) (tc : TT) (te : TE) : TE := fun σ H Q => wi σ H fun J H1 => ∀ p, H1 p = none → LcGoal J p js g tc te σ H1 Q

/-- the block's names: its own (local), and those it takes from outside -/
structure CapOk (X : Cx) (N' : List Str) (js : Cap) (scope : Scope) : Prop where
  len : js.length = N'.length
  kind : scope.kind = .function
  ncell : ∀ p ∈ scope.names, p.2 ≠ .cell
  names : ∀ p ∈ scope.names, p.2 = .local → scope.names.lookup p.1 = some .local
  free : ∀ p ∈ scope.names, p.2 = .free → X.env.kindOf p.1 = some .cell ∨ X.env.kindOf p.1 = some .free
  cap : ∀ (i j : Nat), js[i]? = some (some j) → ∃ x, N'[i]? = some x ∧ X.N[j]? = some x ∧ scope.names.lookup x = some .free

theorem lookup_mem {names : List (Str × NameKind)} {x : Str} {k : NameKind} (h : names.lookup x = some k) : (x, k) ∈ names := by
  induction names with
  | nil => cases h
  | cons p r ih =>
    obtain ⟨n, k'⟩ := p
    rw [List.lookup_cons] at h
    cases hb : x == n with
    | true =>
      rw [hb] at h
      cases h
      rw [show x = n from eq_of_beq hb]
      exact List.mem_cons_self
    | false =>
      rw [hb] at h
      exact List.mem_cons_of_mem _ (ih h)
/-- the relabelled kind of a name -/
theorem relabel_kind {scope : Scope} {env : Env} {x : Str} {k : NameKind} (h : (relabel scope env).names.lookup x = some k) : ∃ k0, scope.names.lookup x = some k0 ∧ (k = k0 ∨ (k0 = .free ∧ k = .cell)) := by
  have go : ∀ (names : List (Str × NameKind)), (names.map fun (p : Str × NameKind) => if (p.2 == NameKind.free && env.scope.kind == .function && env.kindOf p.1 == some .cell) then (p.1, NameKind.cell) else (p.1, p.2)).lookup x = some k →
      ∃ k0, names.lookup x = some k0 ∧ (k = k0 ∨ (k0 = .free ∧ k = .cell)) := by
    intro names
    induction names with
    | nil => intro h; cases h
    | cons p r ih =>
      obtain ⟨n, k'⟩ := p
      intro h
      rw [List.map_cons] at h
      by_cases hc : (k' == NameKind.free && env.scope.kind == .function && env.kindOf n == some .cell) = true
      · rw [if_pos hc] at h
        rw [List.lookup_cons] at h ⊢
        cases hb : x == n with
        | true =>
          rw [hb] at h
          cases h
          have : k' = .free := by
            cases k' <;> first | rfl | (simp at hc)
          exact ⟨k', rfl, .inr ⟨this, rfl⟩⟩
        | false =>
          rw [hb] at h
          exact ih h
      · rw [if_neg hc] at h
        rw [List.lookup_cons] at h ⊢
        cases hb : x == n with
        | true =>
          rw [hb] at h
          cases h
          exact ⟨k', rfl, .inl rfl⟩
        | false =>
          rw [hb] at h
          exact ih h
  exact go scope.names h
theorem relabel_free {scope : Scope} {env : Env} {x : Str} (h : scope.names.lookup x = some .free) : (relabel scope env).names.lookup x = some .cell ∨ (relabel scope env).names.lookup x = some .free := by
  have go : ∀ (names : List (Str × NameKind)), names.lookup x = some .free → (names.map fun (p : Str × NameKind) => if (p.2 == NameKind.free && env.scope.kind == .function && env.kindOf p.1 == some .cell) then (p.1, NameKind.cell) else (p.1, p.2)).lookup x = some .cell ∨
      (names.map fun (p : Str × NameKind) => if (p.2 == NameKind.free && env.scope.kind == .function && env.kindOf p.1 == some .cell) then (p.1, NameKind.cell) else (p.1, p.2)).lookup x = some .free := by
    intro names
    induction names with
    | nil => intro h; cases h
    | cons p r ih =>
      obtain ⟨n, k'⟩ := p
      intro h
      rw [List.map_cons]
      rw [List.lookup_cons] at h
      by_cases hc : (k' == NameKind.free && env.scope.kind == .function && env.kindOf n == some .cell) = true
      · rw [if_pos hc, List.lookup_cons]
        cases hb : x == n with
        | true => exact .inl rfl
        | false =>
          rw [hb] at h
          exact ih h
      · rw [if_neg hc, List.lookup_cons]
        cases hb : x == n with
        | true =>
          rw [hb] at h
          exact .inr h
        | false =>
          rw [hb] at h
          exact ih h
  exact go scope.names h

section
variable {X : Cx} {pins : List (Addr × Obj)} {σ : St} {H : Hp} {s : Shared}
/-- the block is entered -/
theorem inv_block {N' : List Str} {js : Cap} {scope : Scope} {cl : List (Str × Addr)} {fp : List Addr} {h₁ : Heap} {t' : Nat} (ok : CapOk X N' js scope) (I : Inv X pins σ H s)
    (h2 : ∀ x c, cl.lookup x = some c → X.env.cells.lookup x = some c) (h3 : ∀ p ∈ scope.names, p.2 = .free → (cl.lookup p.1).isSome = true)
    (hf : ∀ b ∈ fp, FpOk X pins H b) (hlt : ∀ b ∈ fp, b < s.heap.objs.size)
    (k : ∀ b u, s.heap.get? b = some u → h₁.get? b = some u) (hn : ∃ m, h₁.Ns s.heap.objs.size m) :
    Inv (lcx X N' scope cl s.heap.objs.size s H fp) [] (inn js σ) H { s with heap := h₁, toks := t' } := by
  have fresh : H s.heap.objs.size = none := I.hok.fresh (Nat.le_refl _)
  have kind_of : ∀ x, ((relabel scope X.env).names.lookup x = some .cell ∨ (relabel scope X.env).names.lookup x = some .free) → scope.names.lookup x = some .free := fun x hx => by
    rcases hx with hx | hx
    · obtain ⟨k0, e, z⟩ := relabel_kind hx
      rcases z with z | ⟨z, _⟩
      · subst z
        exact absurd rfl (ok.ncell _ (lookup_mem e))
      · subst z; exact e
    · obtain ⟨k0, e, z⟩ := relabel_kind hx
      rcases z with z | ⟨z, z'⟩
      · subst z; exact e
      · cases z'
  have okc : (lcx X N' scope cl s.heap.objs.size s H fp).Ok := by
    refine ⟨I.ok.mod, ok.kind, I.ok.glob, I.ok.blt, Nat.le_refl _, fun x y c e1 e2 => I.ok.inj x y c (h2 x c e1) (h2 y c e2), fun x hx => ?_, fun x c hx => (nomatch hx), I.ok.hd, I.ok.frames, .inl rfl, fun b hb => ⟨Nat.ne_of_lt (hlt b hb), fun x c e => ?_⟩, I.bs, Nat.le_trans I.ok.bsz I.sz, fun b o e hb => ?_, fun b hb hb' => ?_, I.stack, I.stkFree⟩
    · have e := kind_of x hx
      have z := h3 _ (lookup_mem e) rfl
      cases q : cl.lookup x with
      | none => rw [q] at z; cases z
      | some c => exact ⟨c, q⟩
    · exact (hf b hb).2.2.2.2.1 x c (h2 x c e)
    · rcases (hf b hb).2.2.2.1 with z | z
      · exact I.ok.noex b o e z
      · exact absurd (Nat.lt_of_lt_of_le (Heap.lt_size e) (Nat.le_trans I.ok.bsz z)) (Nat.lt_irrefl _)
    · rcases List.mem_cons.mp (I.stkSub b hb') with z | z
      · exact (hf b hb).2.1 z
      · exact (hf b hb).2.2.1 z
  obtain ⟨m, hn⟩ := hn
  refine ⟨okc, rfl, I.bare, Un.kept k, ⟨m, hn, fun i x v e1 e2 e3 => ?_⟩, fun x c e => ?_, fresh, fun x c e => I.freeC x c (h2 x c e), (fun p hp => nomatch hp), I.hok.kept k, by show (inn js σ).length = N'.length; unfold inn; rw [List.length_map]; exact ok.len⟩
  · have e2 : (inn js σ)[i]? = some (some v) := e2
    unfold inn at e2
    rw [List.getElem?_map] at e2
    cases q : js[i]? with
    | none => rw [q] at e2; cases e2
    | some o =>
      rw [q] at e2
      cases o with
      | none => cases e2
      | some j =>
        obtain ⟨x', n1, n2, n3⟩ := ok.cap i j q
        have e1 : N'[i]? = some x := e1
        rw [n1] at e1
        cases e1
        have e2 : (σ[j]?).join = some v := Option.some.inj e2
        have e2' : σ[j]? = some (some v) := by
          cases q2 : σ[j]? with
          | none => rw [q2] at e2; cases e2
          | some o2 => rw [q2] at e2; exact congrArg some e2
        obtain ⟨mo, hno, hlo⟩ := I.loc
        have kx := ok.free _ (lookup_mem n3) rfl
        have vis : Vis X.env.scope x := by
          rcases kx with z | z
          · exact .inr (.inl z)
          · exact .inr (.inr z)
        obtain ⟨u, r, l⟩ := hlo j x v n2 e2' vis
        refine ⟨u, r, .inr ⟨relabel_free n3, ?_⟩⟩
        rcases l with ⟨z, _⟩ | ⟨_, c, hc, hcell⟩
        · rcases kx with y | y <;> (rw [z] at y; cases y)
        · have z := h3 _ (lookup_mem n3) rfl
          cases q3 : cl.lookup x with
          | none => rw [q3] at z; cases z
          | some c' =>
            have := h2 x c' q3
            rw [hc] at this
            cases this
            exact ⟨c, q3, hcell.keeps k⟩
  · obtain ⟨v, hv⟩ := I.cell x c (h2 x c e)
    exact ⟨v, hv.keeps k⟩
end
end L2

set_option Elab.async false
set_option linter.all false
set_option maxRecDepth 100000
namespace L2
open PySem PySem.Spec PyProof.Rows

section
variable {X : Cx} {tg iter elt : Expr} {ifs : List Expr} {wi : TI} {js : Cap} {g : TG} {tc : TT} {te : TE} {N' : List Str} {scope : Scope} {pos : Pos}
/-- the block, from the iterator on: the list stands, the context is as it was -/
theorem lc_block {pins : List (Addr × Obj)} {σ : St} {H : Hp} {s : Shared} {E : Value → Shared → Prop} {Q : VK} {J : It} {it : Addr} {fp : List Addr} {tn : Nat → Heap → Prop} {cl : List (Str × Addr)}
    (hc : X.calm = true) (ok : CapOk X N' js scope)
    (h2 : ∀ x c, cl.lookup x = some c → X.env.cells.lookup x = some c) (h3 : ∀ p ∈ scope.names, p.2 = .free → (cl.lookup p.1).isSome = true)
    (hg : ∀ cl C s₀ H₀ ex, PG (lcx X N' scope cl C s₀ H₀ ex) tg g) (ht : ∀ cl C s₀ H₀ ex, PIfs (lcx X N' scope cl C s₀ H₀ ex) ifs tc) (he : ∀ cl C s₀ H₀ ex, PE (lcx X N' scope cl C s₀ H₀ ex) elt te)
    (I : Inv X pins σ H s) (T : Turn X.prog X.w X.K tg J fp it tn) (st : tn 0 s.heap) (hf : ∀ b ∈ fp, FpOk X pins H b)
    (hw : ∀ p, H p = none → LcGoal J p js g tc te σ H Q) :
    wpAny (model X.prog X.w) X.A (newList []) (fun acc s₃ => wpAny (model X.prog X.w) X.A (newFunctionEnv scope X.env.globals cl [] X.env.qual none .none (some X.env)) (fun cenv s₄ =>
      codeAny (model X.prog X.w) X.A (.compStart (.ListComp elt [⟨tg, iter, ifs, 0⟩] scope pos) 0 (.ref it) acc { cenv with scope := relabel scope X.env })
        (fun r s' => r = .ok .next ∧ (∃ m, s'.heap.Ns cenv.locals m) ∧ ∃ v H', RelV v acc ∧ Inv X pins σ H' s' ∧ FpOk X pins H' cenv.locals ∧ Q v H') s₄) E s₃) E s := by
  have objs := T.obj _ _ st
  refine wpAny_newObj_type ?_ (by show 0 ≤ sizeLine; decide)
  -- the list
  obtain ⟨W, ⟨m0, w0⟩, turn⟩ := hw s.heap.objs.size (I.hok.fresh (Nat.le_refl _))
  generalize hp : s.heap.objs.size = p at *
  have kp : ∀ b u, s.heap.get? b = some u → (s.heap.push { cls := .type "list", dict := none, data := .seq ([] : List Value).toArray }).get? b = some u := fun b u e => Heap.get?_push_of_some _ e
  have I3 : Inv X pins σ (upd H p (.lst [])) { s with heap := s.heap.push { cls := .type "list", dict := none, data := .seq ([] : List Value).toArray } } := by
    refine I.laid (t' := s.toks) kp (by rw [hp]; exact Nat.le_refl _) ⟨Nat.zero_le _, [], 0, .nil, ?_⟩
    have := Heap.get?_push_size s.heap (o := { cls := .type "list", dict := none, data := .seq ([] : List Value).toArray }) rfl
    rw [hp] at this
    exact this
  have fne : ∀ b ∈ fp, b ≠ p := fun b hb => by
    obtain ⟨o, e, _⟩ := objs b hb
    have := Heap.lt_size e
    rw [← hp]
    exact Nat.ne_of_lt this
  have hf3 : ∀ b ∈ fp, FpOk X pins (upd H p (.lst [])) b := fun b hb => ⟨by rw [upd_ne (fne b hb)]; exact (hf b hb).1, (hf b hb).2⟩
  have st3 : tn 0 (s.heap.push { cls := .type "list", dict := none, data := .seq ([] : List Value).toArray }) := T.keep _ _ _ st fun b _ o e => kp b o e
  have lt3 : ∀ b ∈ fp, b < (s.heap.push { cls := .type "list", dict := none, data := .seq ([] : List Value).toArray }).objs.size := fun b hb => by
    obtain ⟨o, e, _⟩ := objs b hb
    exact Heap.lt_size (kp b o e)
  generalize hs3 : ({ s with heap := s.heap.push { cls := .type "list", dict := none, data := .seq ([] : List Value).toArray } } : Shared) = s3 at *
  have eh : s.heap.push { cls := .type "list", dict := none, data := .seq ([] : List Value).toArray } = s3.heap := by rw [← hs3]
  rw [eh] at st3 lt3
  refine wpAny_newFunctionEnv ok.ncell (by intro y hy; simp at hy) (fun h₁ hns₁ hsb₁ => ?_) ok.kind
  try dsimp only at hns₁ hsb₁ ⊢
  have k4 : ∀ b u, s3.heap.get? b = some u → h₁.get? b = some u := fun b u e => (hsb₁.2 b (Nat.ne_of_lt (Heap.lt_size e))).trans (Heap.get?_push_of_some _ e)
  have I4 := inv_block (cl := cl) (h₁ := h₁) (t' := s3.toks + ([] : List (Str × Value)).length) ok I3 h2 h3 hf3 lt3 k4 ⟨_, hns₁⟩
  have st4 : tn 0 h₁ := T.keep _ _ _ st3 fun b _ o e => k4 b o e
  generalize hX : lcx X N' scope cl s3.heap.objs.size s3 (upd H p (.lst [])) fp = X' at I4
  have hg' : PG X' tg g := by rw [← hX]; exact hg _ _ _ _ _
  have ht' : PIfs X' ifs tc := by rw [← hX]; exact ht _ _ _ _ _
  have he' : PE X' elt te := by rw [← hX]; exact he _ _ _ _ _
  have eP : X'.prog = X.prog := by rw [← hX]; rfl
  have ew : X'.w = X.w := by rw [← hX]; rfl
  have eK : X'.K = X.K := by rw [← hX]; rfl
  have ec : X'.calm = true := by rw [← hX]; exact hc
  have eA : X'.A = X.A := by rw [← hX]; rfl
  have ex : X'.xe = fun _ _ => False := by rw [← hX]; rfl
  have eE : X'.env = compEnvC scope cl s3.heap.objs.size X.env := by rw [← hX]; rfl
  have eEx : X'.ex = fp := by rw [← hX]; rfl
  have eN : X'.pn = [] := by rw [← hX]; rfl
  -- the iterator's own objects, seen from within
  have stat : ∀ {H' : Hp}, (∀ b ∈ fp, H' b = none) → ∀ b ∈ fp, FpOk X' [] H' b := fun {H'} hn b hb => by
    have okc := I4.ok
    refine ⟨hn b hb, (okc.exf b (by rw [eEx]; exact hb)).1, okc.exfs b (by rw [eEx]; exact hb), .inl (by rw [eEx]; exact hb), (okc.exf b (by rw [eEx]; exact hb)).2, fun q hq => ?_⟩
    rw [eN] at hq
    cases hq
  have loop : ∀ s₄ : Shared, s₄ = { s3 with heap := h₁, toks := s3.toks + ([] : List (Str × Value)).length } →
      codeAny (model X.prog X.w) X.A (.compLoop (.ListComp elt [⟨tg, iter, ifs, 0⟩] scope pos) 0 (.ref it) (.ref p) (compEnvC scope cl s3.heap.objs.size X.env))
        (fun r s' => r = .ok .next ∧ (∃ m, s'.heap.Ns s3.heap.objs.size m) ∧ ∃ v H', RelV v (.ref p) ∧ Inv X pins σ H' s' ∧ FpOk X pins H' s3.heap.objs.size ∧ Q v H') s₄ := by
    rintro s₄ rfl
    refine compLoop_go (fun n s' => ∃ i σ' ys H', Inv X' [] σ' H' s' ∧ tn i s'.heap ∧ (∀ b ∈ fp, H' b = none) ∧ W i n σ' ys H') ?_ m0 ⟨0, _, [], _, I4, st4, fun b hb => (hf3 b hb).1, w0⟩
    rintro n s5 ⟨i, σ5, ys, H5, I5, st5, fr5, w5⟩
    obtain ⟨hp5, tu⟩ := turn i n σ5 ys H5 w5
    rcases tu with ⟨stop, qn⟩ | ⟨go, hz, step⟩
    · have D := T.done X' eP ew eK ec i [] s5 σ5 H5 (fun _ _ => False) I5 (stat fr5) st5 stop
      rw [eA] at D
      refine thn D fun r s6 ⟨hr, I6⟩ => ?_
      subst hr
      refine ⟨rfl, ?_, .ref p, H5, rfl, ?_, ?_, qn⟩
      · obtain ⟨m, hm, _⟩ := I6.loc
        rw [eE] at hm
        exact ⟨m, hm⟩
      · have b6 := I6.base
        have ho := I6.os
        have hk := I6.hok
        have hb := I6.bare
        subst hX
        exact I3.call' (ch := fp) ho b6 hk hb fun b hb' => ⟨(hf b hb').2.2.2.1, (hf b hb').2.1, (hf b hb').2.2.2.2.1, (hf b hb').2.2.2.2.2⟩
      · have fr := I6.free
        rw [eE] at fr
        exact I3.fpOk (Nat.le_refl _) fr
    · have D := T.item X' eP ew eK ec i [] s5 σ5 H5 (fun _ _ => False) I5 (stat fr5) st5 go
      rw [eA] at D
      refine thn D fun r s6 ⟨u, hr, h6⟩ => ?_
      subst hr
      refine thn h6 fun _ s7 ⟨x, H7, I7, r7, y7, st7, fr7⟩ => ?_
      have I7' := I7.pinned (stat fr7) (T.obj _ _ st7)
      have G := hg' _ s7 σ5 H7 x u _ I7' r7 (step x H7 y7)
      rw [eP, ew, eA, ex, eE] at G
      refine thn G fun _ s8 ⟨σ8, H8, I8, q8⟩ => ?_
      have Tt := ht' _ s8 σ8 H8 _ I8 q8
      rw [eP, ew, eA, ex, eE] at Tt
      refine thn Tt fun b s9 ⟨H9, I9, q9⟩ => ?_
      have again : ∀ {s' : Shared} {ys' : List V} {H' : Hp}, Inv X' ([] ++ pinsAt fp s7.heap) σ8 H' s' → (∃ m', m' < n ∧ W (i + 1) m' σ8 ys' H') →
          ∃ m, m < n ∧ ∃ i σ' ys H', Inv X' [] σ' H' s' ∧ tn i s'.heap ∧ (∀ b ∈ fp, H' b = none) ∧ W i m σ' ys H' := fun {s' ys' H'} I' ⟨m', hm, w'⟩ => by
        refine ⟨m', hm, i + 1, σ8, ys', H', I'.unpinned, T.keep _ _ _ st7 fun b hb o e => (I'.pin (b, o) (List.mem_append_right _ (List.mem_append_right _ (mem_pinsAt hb e)))).1, fun b hb => ?_, w'⟩
        obtain ⟨o, e, d⟩ := T.obj _ _ st7 b hb
        exact (I'.pin (b, o) (List.mem_append_right _ (List.mem_append_right _ (mem_pinsAt hb e)))).2.1
      cases b with
      | false => exact again I9 q9
      | true =>
        have Ee := he' _ s9 σ8 H9 _ I9 q9
        rw [eP, ew, eA, ex, eE] at Ee
        show wpAny _ _ _ _ _ _
        refine thn Ee fun xv s10 ⟨y, H10, I10, r10, hp10, q10⟩ => ?_
        have Ap := mt_append (X := X') _ s10 σ8 H10 (.ref p) [y] (.ref p) [xv] (fun _ H' => H' = upd H10 p (.lst (ys ++ [y]))) I10 rfl (.cons r10 .nil) ⟨p, ys, y, rfl, rfl, hp10, hz, rfl⟩
        rw [eP, ew, eA, ex] at Ap
        refine thn Ap fun _ s11 ⟨_, H11, I11, _, e11⟩ => ?_
        subst e11
        exact again I11 q10
  exact codeAny_compStart_list (loop _ rfl) (T.self _ 0 _ _ _ st4 (loop _ rfl))
/-- [elt for tg in iter if ..] as a value -/
theorem pe_lc (hc : X.calm = true) (ok : CapOk X N' js scope) (hi : PI X tg iter wi)
    (hg : ∀ cl C s₀ H₀ ex, PG (lcx X N' scope cl C s₀ H₀ ex) tg g) (ht : ∀ cl C s₀ H₀ ex, PIfs (lcx X N' scope cl C s₀ H₀ ex) ifs tc) (he : ∀ cl C s₀ H₀ ex, PE (lcx X N' scope cl C s₀ H₀ ex) elt te)
    (hs : ∀ x, foldedSetIterable iter X.env x = pure x := by intro _; rfl) : PE X (.ListComp elt [⟨tg, iter, ifs, 0⟩] scope pos) (tLC wi js g tc te) := by
  intro pins s σ H Q I h
  obtain ⟨cl, c1, c2, c3⟩ := clos_of (scope := scope) I.ok.has ok.free
  rw [eval_ListComp]
  refine wpAny_comprehension_free (use := none) rfl hs c1 ok.kind ok.names (thn (hi pins s σ H _ I h) fun v s1 h1 => thn h1 fun itv s2 h2 => ?_)
  obtain ⟨it, fp, tn, J, H2, e, I2, T, st2, f2, hw⟩ := h2
  subst e
  refine wpAny_mono (lc_block (iter := iter) (pos := pos) hc ok c2 c3 hg ht he I2 T st2 f2 hw) (fun acc s3 h3 => wpAny_mono h3 (fun cenv s4 h4 => ?_) fun _ _ z => z) fun _ _ z => z
  refine codeAny_mono h4 fun r s5 h5 => ?_
  obtain ⟨rfl, ⟨m, hm⟩, v, H5, rv, I5, f5, q5⟩ := h5
  refine ⟨m, hm, fun h' sb => ?_⟩
  obtain ⟨f0, f1, _, f3, f4, f6⟩ := f5
  exact ⟨v, H5, I5.turned (t' := s5.toks) (fun b o hb e => (sb.2 b hb).trans e) f0 f1 f3 f4 f6, rv, q5⟩
/-- name = [elt for tg in iter if ..]: stored ahead of the block's end -/
theorem ps_setLC {i : Nat} {x : Str} {px : Pos} {spos : Pos} (hN : X.N.Nodup) (hi' : X.N[i]? = some x) (hx : Loc X.env.scope x) (hc : X.calm = true) (ok : CapOk X N' js scope) (hi : PI X tg iter wi)
    (hg : ∀ cl C s₀ H₀ ex, PG (lcx X N' scope cl C s₀ H₀ ex) tg g) (ht : ∀ cl C s₀ H₀ ex, PIfs (lcx X N' scope cl C s₀ H₀ ex) ifs tc) (he : ∀ cl C s₀ H₀ ex, PE (lcx X N' scope cl C s₀ H₀ ex) elt te)
    (hsw : swapsWith (.ListComp elt [⟨tg, iter, ifs, 0⟩] scope pos) (some (.Name x px)) spos.line X.env = pure true := by rfl)
    (hs : ∀ x, foldedSetIterable iter X.env x = pure x := by intro _; rfl) (hf : X.fn x = true ∨ X.env.scope.names.lookup x = some .local := by first | exact .inl rfl | exact .inr rfl | assumption) :
    PS X (.Assign [.Name x px] (.ListComp elt [⟨tg, iter, ifs, 0⟩] scope pos) spos) (tAsg (tLC wi js g tc te) (gName i)) := by
  intro pins s σ H D I h
  obtain ⟨cl, c1, c2, c3⟩ := clos_of (scope := scope) I.ok.has ok.free
  rw [exec_Assign_Name_used _ _ _ _ hsw]
  refine wpAny_bind (wpAny_standAt (wpAny_bind ?_))
  show wpAny _ X.A (do let _ ← comprehension (.ListComp elt [⟨tg, iter, ifs, 0⟩] scope pos) scope X.env _ (newList []) false (eval iter X.env) (some (assign (.Name x px) X.env))) _ _ s
  refine wpAny_bind (wpAny_mono (wpAny_comprehension_free (use := some (assign (.Name x px) X.env)) (Q := fun _ s' => SP X pins D .next s') rfl hs c1 ok.kind ok.names
    (thn (hi pins s σ H _ I h) fun v s1 h1 => thn h1 fun itv s2 h2 => ?_)) (fun _ s' hq => wpAny_pure (wpAny_pure hq)) fun _ _ e => e)
  obtain ⟨it, fp, tn, J, H2, e, I2, T, st2, f2, hw⟩ := h2
  subst e
  refine wpAny_mono (lc_block (Q := fun x H1 => gName i x σ H1 D.nx) (iter := iter) (pos := pos) hc ok c2 c3 hg ht he I2 T st2 f2 hw) (fun acc s3 h3 => wpAny_mono h3 (fun cenv s4 h4 => ?_) fun _ _ z => z) fun _ _ z => z
  refine codeAny_mono h4 fun r s5 h5 => ?_
  obtain ⟨rfl, ⟨m, hm⟩, v, H5, rv, I5, f5, q5⟩ := h5
  obtain ⟨f0, f1, f2', f3, f4, f6⟩ := f5
  show wpAny _ X.A (assign (.Name x px) X.env acc) _ _ _
  refine wpAny_assign_Name (store_ok2 I5 hN hi' hx rv (fun s6 I6 ch => ?_) hf)
  obtain ⟨a, sb, ha⟩ := ch
  have na : cenv.locals ≠ a := by
    rcases ha with z | z
    · rw [z]; exact f1
    · exact fun y => f4 x a z y.symm
  refine ⟨m, hm.sameBut sb na, fun h' sb' => ⟨_, H5, I6.turned (t' := s6.toks) (fun b o hb e => (sb'.2 b hb).trans e) f0 f1 f3 f4 f6, q5⟩⟩
end
end L2

set_option Elab.async false
set_option linter.all false
set_option maxRecDepth 100000
set_option exponentiation.threshold 2000
namespace L2
open PySem PySem.Spec PyProof.Rows

/-! ### wider arithmetic -/
def CPowB (i j : Int) : Prop := 0 ≤ j ∧ j ≤ 1000 ∧ i.natAbs < 2 ^ 1000
def CDivW (i j : Int) : Prop := 0 < j ∧ j < 2 ^ 1000
section
variable {X : Cx}
theorem op_powB : OpR X (binaryOp .Pow) (rI CPowB fun i j => .int (i ^ j.toNat)) := opI fun i j _ _ _ _ _ hc q => by
  obtain ⟨h0, h1, h2⟩ := hc
  refine pow_int h0 ?_ q
  have hb : Builtin.Int.intBits i ≤ 1000 := intBits_le h2
  have e1 : ((Builtin.Int.intBits i : Nat) : Int) * j ≤ 1000 * 1000 := by
    have a1 : ((Builtin.Int.intBits i : Nat) : Int) * j ≤ 1000 * j := Int.mul_le_mul_of_nonneg_right (by omega) h0
    have a2 : 1000 * j ≤ 1000 * 1000 := Int.mul_le_mul_of_nonneg_left h1 (by decide)
    exact Int.le_trans a1 a2
  exact Int.le_trans e1 (by decide)
theorem op_fdivW : OpR X (binaryOp .FloorDiv) (rI CDivW fun i j => .int (i / j)) := opI fun i j _ _ _ _ _ hc q => by
  obtain ⟨h0, h1⟩ := hc
  refine floordiv_int (by omega) ?_ (.inl (PyProof.noPylong_of_log2 ?_))
  · rw [Int.fdiv_eq_ediv_of_nonneg _ (by omega)]
    exact q
  · have h2 : j.natAbs < 2 ^ 1000 := by
      have e : ((j.natAbs : Nat) : Int) = j := by omega
      have h3 : ((j.natAbs : Nat) : Int) < ((2 ^ 1000 : Nat) : Int) := by
        rw [e, Int.natCast_pow]
        exact h1
      exact Int.ofNat_lt.mp h3
    have h4 : j.natAbs ≠ 0 := by omega
    have h5 := (Nat.log2_lt h4).mpr h2
    omega
end

/-! ### data -/
inductive PD where
  | non | bl (b : Bool) | int (i : Int) | str (x : Str) | lst (ds : List PD) | tup (ds : List PD)

mutual
def Rep (K : PySem.W.Frag) (H : Hp) : PD → V → Prop
  | .non, v => v = .non
  | .bl b, v => v = .bl b
  | .int i, v => v = .int i
  | .str x, v => v = .str x
  | .lst ds, v => ∃ a xs, v = .ref a ∧ SqL K H a xs ∧ Reps K H ds xs
  | .tup ds, v => ∃ a xs, v = .ref a ∧ SqT K H a xs ∧ Reps K H ds xs
def Reps (K : PySem.W.Frag) (H : Hp) : List PD → List V → Prop
  | [], xs => xs = []
  | d :: ds, xs => ∃ x r, xs = x :: r ∧ Rep K H d x ∧ Reps K H ds r
end
mutual
def pyEq : PD → PD → Bool
  | .non, .non => true
  | .bl a, .bl b => a == b
  | .bl a, .int b => (if a then 1 else 0) == b
  | .int a, .bl b => a == (if b then 1 else 0)
  | .int a, .int b => a == b
  | .str a, .str b => a == b
  | .lst xs, .lst ys => pyEqs xs ys
  | .tup xs, .tup ys => pyEqs xs ys
  | _, _ => false
def pyEqs : List PD → List PD → Bool
  | [], [] => true
  | x :: xs, y :: ys => pyEq x y && pyEqs xs ys
  | _, _ => false
end
mutual
def depthD : PD → Nat
  | .lst ds => depthDs ds + 1
  | .tup ds => depthDs ds + 1
  | _ => 0
def depthDs : List PD → Nat
  | [] => 0
  | d :: ds => max (depthD d) (depthDs ds)
end
mutual
theorem pyEq_refl : ∀ d : PD, pyEq d d = true
  | .non => rfl
  | .bl b => by simp [pyEq]
  | .int i => by simp [pyEq]
  | .str x => by simp [pyEq]
  | .lst ds => by rw [pyEq]; exact pyEqs_refl ds
  | .tup ds => by rw [pyEq]; exact pyEqs_refl ds
theorem pyEqs_refl : ∀ ds : List PD, pyEqs ds ds = true
  | [] => by rw [pyEqs]
  | d :: ds => by rw [pyEqs, pyEq_refl d, pyEqs_refl ds]; rfl
end
theorem Reps.length {K : PySem.W.Frag} {H : Hp} : ∀ {ds : List PD} {xs : List V}, Reps K H ds xs → xs.length = ds.length
  | [], xs, h => by rw [Reps] at h; rw [h]; rfl
  | d :: ds, xs, h => by
    rw [Reps] at h
    obtain ⟨x, r, rfl, _, h⟩ := h
    rw [List.length_cons, List.length_cons, Reps.length h]
theorem pyEqs_len : ∀ {xs ys : List PD}, xs.length ≠ ys.length → pyEqs xs ys = false
  | [], [], h => absurd rfl h
  | [], _ :: _, _ => by rw [pyEqs]; all_goals simp
  | _ :: _, [], _ => by rw [pyEqs]; all_goals simp
  | x :: xs, y :: ys, h => by
    rw [pyEqs, pyEqs_len (xs := xs) (ys := ys) (by simpa using h)]
    simp
def eqJ (xs ys : List PD) (j : Nat) : Bool := match xs[j]?, ys[j]? with
  | some a, some b => pyEq a b
  | _, _ => false
theorem pyEqs_range : ∀ (xs ys : List PD), xs.length = ys.length → (List.range xs.length).all (eqJ xs ys) = pyEqs xs ys
  | [], [], _ => by rw [pyEqs]; rfl
  | x :: xs, y :: ys, h => by
    rw [pyEqs, List.length_cons, List.range_succ_eq_map, List.all_cons, List.all_map]
    rw [← pyEqs_range xs ys (by simpa using h)]
    rfl

theorem SqT.notL {K : PySem.W.Frag} {X : Cx} {pins : List (Addr × Obj)} {σ : St} {H : Hp} {s : Shared} {a : Addr} {xs ys : List V} (I : Inv X pins σ H s) (h : SqT X.K H a xs) (h' : SqL X.K H a ys) : False := by
  obtain ⟨its, _, p, _⟩ := I.tuple h
  obtain ⟨its', _, p', _⟩ := I.list h'
  exact SeqAt.ne_of_list_tuple p'.isList (show s.heap.IsTuple a its.toArray from p) rfl

section
variable {X : Cx} {pins : List (Addr × Obj)} {σ : St} {H : Hp} {s : Shared}
mutual
theorem rep_inj (I : Inv X pins σ H s) : ∀ (d e : PD) (v : V), Rep X.K H d v → Rep X.K H e v → d = e
  | .non, e, v, h, h' => by
    rw [Rep] at h; subst h
    cases e <;> rw [Rep] at h' <;> first | rfl | (obtain ⟨_, _, z, _⟩ := h'; cases z; done) | (cases h'; done)
  | .bl b, e, v, h, h' => by
    rw [Rep] at h; subst h
    cases e <;> rw [Rep] at h' <;> first | (obtain ⟨_, _, z, _⟩ := h'; cases z; done) | (cases h'; done) | (cases h'; rfl)
  | .int i, e, v, h, h' => by
    rw [Rep] at h; subst h
    cases e <;> rw [Rep] at h' <;> first | (obtain ⟨_, _, z, _⟩ := h'; cases z; done) | (cases h'; done) | (cases h'; rfl)
  | .str x, e, v, h, h' => by
    rw [Rep] at h; subst h
    cases e <;> rw [Rep] at h' <;> first | (obtain ⟨_, _, z, _⟩ := h'; cases z; done) | (cases h'; done) | (cases h'; rfl)
  | .lst ds, e, v, h, h' => by
    rw [Rep] at h
    obtain ⟨a, xs, rfl, q, r⟩ := h
    cases e with
    | lst es =>
      rw [Rep] at h'
      obtain ⟨a', ys, z, q', r'⟩ := h'
      cases z
      have := I.list_inj q q'
      subst this
      rw [reps_inj I ds es xs r r']
    | tup es =>
      rw [Rep] at h'
      obtain ⟨a', ys, z, q', r'⟩ := h'
      cases z
      exact (SqT.notL (K := X.K) I q' q).elim
    | _ => rw [Rep] at h'; cases h'
  | .tup ds, e, v, h, h' => by
    rw [Rep] at h
    obtain ⟨a, xs, rfl, q, r⟩ := h
    cases e with
    | tup es =>
      rw [Rep] at h'
      obtain ⟨a', ys, z, q', r'⟩ := h'
      cases z
      have := I.tuple_inj q q'
      subst this
      rw [reps_inj I ds es xs r r']
    | lst es =>
      rw [Rep] at h'
      obtain ⟨a', ys, z, q', r'⟩ := h'
      cases z
      exact (SqT.notL (K := X.K) I q q').elim
    | _ => rw [Rep] at h'; cases h'
theorem reps_inj (I : Inv X pins σ H s) : ∀ (ds es : List PD) (vs : List V), Reps X.K H ds vs → Reps X.K H es vs → ds = es
  | [], es, vs, h, h' => by
    rw [Reps] at h; subst h
    cases es with
    | nil => rfl
    | cons e es => rw [Reps] at h'; obtain ⟨_, _, z, _⟩ := h'; cases z
  | d :: ds, es, vs, h, h' => by
    rw [Reps] at h
    obtain ⟨x, r, rfl, h1, h2⟩ := h
    cases es with
    | nil => rw [Reps] at h'; cases h'
    | cons e es =>
      rw [Reps] at h'
      obtain ⟨x', r', z, h1', h2'⟩ := h'
      cases z
      rw [rep_inj I d e x h1 h1', reps_inj I ds es r h2 h2']
end

/-! == within: an answer for every place -/
mutual
theorem eqAt_rep (I : Inv X pins σ H s) : ∀ (A : Around) (d e : PD) (v w : V) (u y : Value), Rep X.K H d v → Rep X.K H e w → RelV v u → RelV w y → A.units + depthD d < cLine → SeqAt.EqAt A s u y (pyEq d e)
  | A, .non, e, v, w, u, y, h, h', r, r', z => by
    rw [Rep] at h; subst h; cases r
    cases e with
    | non => rw [Rep] at h'; subst h'; cases r'; rw [pyEq]; exact SeqAt.EqAt.same _
    | bl b => rw [Rep] at h'; subst h'; cases r'; exact SeqAt.EqAt.none_bool b
    | int b => rw [Rep] at h'; subst h'; obtain ⟨t, rfl⟩ := r'; exact SeqAt.EqAt.none_int b t
    | str b => rw [Rep] at h'; subst h'; obtain ⟨t, rfl⟩ := r'; exact SeqAt.EqAt.none_str b t
    | lst es => rw [Rep] at h'; obtain ⟨a, xs, rfl, q, _⟩ := h'; cases r'; obtain ⟨its, _, p, _⟩ := I.list q; exact SeqAt.EqAt.none_list p.isList (by omega)
    | tup es => rw [Rep] at h'; obtain ⟨a, xs, rfl, q, _⟩ := h'; cases r'; obtain ⟨its, _, p, _⟩ := I.tuple q; exact SeqAt.EqAt.none_tuple p (by omega)
  | A, .bl c, e, v, w, u, y, h, h', r, r', z => by
    rw [Rep] at h; subst h; cases r
    cases e with
    | non => rw [Rep] at h'; subst h'; cases r'; exact SeqAt.EqAt.bool_none c
    | bl b => rw [Rep] at h'; subst h'; cases r'; exact SeqAt.EqAt.bool_bool c b
    | int b => rw [Rep] at h'; subst h'; obtain ⟨t, rfl⟩ := r'; exact SeqAt.EqAt.bool_int c b t
    | str b => rw [Rep] at h'; subst h'; obtain ⟨t, rfl⟩ := r'; exact SeqAt.EqAt.bool_str c b t
    | lst es => rw [Rep] at h'; obtain ⟨a, xs, rfl, q, _⟩ := h'; cases r'; obtain ⟨its, _, p, _⟩ := I.list q; exact SeqAt.EqAt.bool_list c p.isList (by omega)
    | tup es => rw [Rep] at h'; obtain ⟨a, xs, rfl, q, _⟩ := h'; cases r'; obtain ⟨its, _, p, _⟩ := I.tuple q; exact SeqAt.EqAt.bool_tuple c p (by omega)
  | A, .int c, e, v, w, u, y, h, h', r, r', z => by
    rw [Rep] at h; subst h; obtain ⟨tc, rfl⟩ := r
    cases e with
    | non => rw [Rep] at h'; subst h'; cases r'; exact SeqAt.EqAt.int_none c tc
    | bl b => rw [Rep] at h'; subst h'; cases r'; exact SeqAt.EqAt.int_bool c tc b
    | int b => rw [Rep] at h'; subst h'; obtain ⟨t, rfl⟩ := r'; exact SeqAt.EqAt.int_int c tc b t
    | str b => rw [Rep] at h'; subst h'; obtain ⟨t, rfl⟩ := r'; exact SeqAt.EqAt.int_str c tc b t
    | lst es => rw [Rep] at h'; obtain ⟨a, xs, rfl, q, _⟩ := h'; cases r'; obtain ⟨its, _, p, _⟩ := I.list q; exact SeqAt.EqAt.int_list c tc p.isList (by omega)
    | tup es => rw [Rep] at h'; obtain ⟨a, xs, rfl, q, _⟩ := h'; cases r'; obtain ⟨its, _, p, _⟩ := I.tuple q; exact SeqAt.EqAt.int_tuple c tc p (by omega)
  | A, .str c, e, v, w, u, y, h, h', r, r', z => by
    rw [Rep] at h; subst h; obtain ⟨tc, rfl⟩ := r
    cases e with
    | non => rw [Rep] at h'; subst h'; cases r'; exact SeqAt.EqAt.str_none c tc
    | bl b => rw [Rep] at h'; subst h'; cases r'; exact SeqAt.EqAt.str_bool c tc b
    | int b => rw [Rep] at h'; subst h'; obtain ⟨t, rfl⟩ := r'; exact SeqAt.EqAt.str_int c tc b t
    | str b => rw [Rep] at h'; subst h'; obtain ⟨t, rfl⟩ := r'; exact SeqAt.EqAt.str_str c tc b t
    | lst es => rw [Rep] at h'; obtain ⟨a, xs, rfl, q, _⟩ := h'; cases r'; obtain ⟨its, _, p, _⟩ := I.list q; exact SeqAt.EqAt.str_list c tc p.isList (by omega)
    | tup es => rw [Rep] at h'; obtain ⟨a, xs, rfl, q, _⟩ := h'; cases r'; obtain ⟨its, _, p, _⟩ := I.tuple q; exact SeqAt.EqAt.str_tuple c tc p (by omega)
  | A, .lst ds, e, v, w, u, y, h, h', r, r', z => by
    have h0 := h
    rw [Rep] at h; obtain ⟨a, xs, rfl, q, qs⟩ := h; cases r
    obtain ⟨its, rv, p, _⟩ := I.list q
    cases e with
    | non => rw [Rep] at h'; subst h'; cases r'; exact SeqAt.EqAt.list_none p.isList (by omega)
    | bl b => rw [Rep] at h'; subst h'; cases r'; exact SeqAt.EqAt.list_bool b p.isList (by omega)
    | int b => rw [Rep] at h'; subst h'; obtain ⟨t, rfl⟩ := r'; exact SeqAt.EqAt.list_int b t p.isList (by omega)
    | str b => rw [Rep] at h'; subst h'; obtain ⟨t, rfl⟩ := r'; exact SeqAt.EqAt.list_str b t p.isList (by omega)
    | tup es => rw [Rep] at h'; obtain ⟨b, ys, rfl, q', _⟩ := h'; cases r'; obtain ⟨its', _, p', _⟩ := I.tuple q'; exact SeqAt.EqAt.list_tuple p.isList p' (by omega)
    | lst es =>
      have h0' := h'
      rw [Rep] at h'; obtain ⟨b, ys, rfl, q', qs'⟩ := h'; cases r'
      obtain ⟨its', rv', p', _⟩ := I.list q'
      by_cases hab : a = b
      · subst hab
        rw [rep_inj I _ _ _ h0 h0', pyEq_refl]
        exact SeqAt.EqAt.same _
      · refine SeqAt.EqAt.of_refs hab ?_
        rw [pyEq]
        rw [depthD] at z
        have l1 := qs.length
        have l2 := qs'.length
        have l3 := rv.length
        have l4 := rv'.length
        by_cases hl : ds.length = es.length
        · rw [← pyEqs_range ds es hl]
          have := SeqAt.RcAt.lists (e := eqJ ds es) p.isList p'.isList (by simp; omega) (by omega) (fun j h1 h2 => ?_) (A := A)
          · simp only [List.size_toArray] at this
            rw [show ds.length = its.length by omega]
            exact this
          · have := eqAts_rep I A.in1 ds es xs ys its its' qs qs' rv rv' (by rw [Around.in1_units]; omega) j (by simpa using h1) (by simpa using h2)
            simpa using this
        · rw [pyEqs_len hl]
          exact SeqAt.RcAt.lists_lengths p.isList p'.isList (by simp; omega) (by omega)
  | A, .tup ds, e, v, w, u, y, h, h', r, r', z => by
    have h0 := h
    rw [Rep] at h; obtain ⟨a, xs, rfl, q, qs⟩ := h; cases r
    obtain ⟨its, rv, p, _⟩ := I.tuple q
    cases e with
    | non => rw [Rep] at h'; subst h'; cases r'; exact SeqAt.EqAt.tuple_none p (by omega)
    | bl b => rw [Rep] at h'; subst h'; cases r'; exact SeqAt.EqAt.tuple_bool b p (by omega)
    | int b => rw [Rep] at h'; subst h'; obtain ⟨t, rfl⟩ := r'; exact SeqAt.EqAt.tuple_int b t p (by omega)
    | str b => rw [Rep] at h'; subst h'; obtain ⟨t, rfl⟩ := r'; exact SeqAt.EqAt.tuple_str b t p (by omega)
    | lst es => rw [Rep] at h'; obtain ⟨b, ys, rfl, q', _⟩ := h'; cases r'; obtain ⟨its', _, p', _⟩ := I.list q'; exact SeqAt.EqAt.tuple_list p p'.isList (by omega)
    | tup es =>
      have h0' := h'
      rw [Rep] at h'; obtain ⟨b, ys, rfl, q', qs'⟩ := h'; cases r'
      obtain ⟨its', rv', p', _⟩ := I.tuple q'
      by_cases hab : a = b
      · subst hab
        rw [rep_inj I _ _ _ h0 h0', pyEq_refl]
        exact SeqAt.EqAt.same _
      · refine SeqAt.EqAt.of_refs hab ?_
        rw [pyEq]
        rw [depthD] at z
        have l1 := qs.length
        have l2 := qs'.length
        have l3 := rv.length
        have l4 := rv'.length
        have := SeqAt.RcAt.tuples (e := eqJ ds es) p p' (by omega) (fun j h1 h2 => ?_) (A := A)
        · simp only [List.size_toArray] at this
          by_cases hl : ds.length = es.length
          · rw [← pyEqs_range ds es hl]
            rw [show min its.length its'.length = ds.length by omega, show (its.length == its'.length) = true by simp; omega, Bool.and_true] at this
            exact this
          · rw [pyEqs_len hl]
            rw [show (its.length == its'.length) = false by simp; omega, Bool.and_false] at this
            exact this
        · have := eqAts_rep I A.in1 ds es xs ys its its' qs qs' rv rv' (by rw [Around.in1_units]; omega) j (by simpa using h1) (by simpa using h2)
          simpa using this
theorem eqAts_rep (I : Inv X pins σ H s) : ∀ (A : Around) (ds es : List PD) (vs ws : List V) (us ys : List Value), Reps X.K H ds vs → Reps X.K H es ws → Vals vs us → Vals ws ys → A.units + depthDs ds < cLine →
    ∀ (j : Nat) (h1 : j < us.length) (h2 : j < ys.length), SeqAt.EqAt A s us[j] ys[j] (eqJ ds es j)
  | A, [], es, vs, ws, us, ys, h, h', r, r', z => by
    rw [Reps] at h; subst h; cases r
    intro j h1; exact absurd h1 (Nat.not_lt_zero _)
  | A, d :: ds, es, vs, ws, us, ys, h, h', r, r', z => by
    rw [Reps] at h
    obtain ⟨x, vr, rfl, g1, g2⟩ := h
    cases es with
    | nil =>
      rw [Reps] at h'; subst h'; cases r'
      intro j h1 h2; exact absurd h2 (Nat.not_lt_zero _)
    | cons e es =>
      rw [Reps] at h'
      obtain ⟨x', vr', rfl, g1', g2'⟩ := h'
      cases r with
      | cons ra rb =>
        cases r' with
        | cons ra' rb' =>
          rw [depthDs] at z
          intro j h1 h2
          cases j with
          | zero => exact eqAt_rep I A d e x x' _ _ g1 g1' ra ra' (by omega)
          | succ j => exact eqAts_rep I A ds es vr vr' _ _ g2 g2' rb rb' (by omega) j (by simpa using h1) (by simpa using h2)
end
end
end L2

set_option Elab.async false
set_option linter.all false
set_option maxRecDepth 100000
set_option exponentiation.threshold 2000
namespace L2
open PySem PySem.Spec PyProof.Rows

section
variable {prog : Program} {w : World} {A : Around} {R : Result → Shared → Prop} {J : Addr} {fo wo : List Addr} {len : Nat} {At : Nat → Value → Prop} {Sx : Nat → Heap → Prop}
end

section
variable {prog : Program} {w : World} {A : Around} {R : Result → Shared → Prop} {J : Addr} {fo wo : List Addr} {len : Nat} {At : Nat → Value → Prop} {Sx : Nat → Heap → Prop}
end

/-! ### over ints -/
def bestOf (lt : Int → Int → Bool) : Int → List Int → Int
  | b, [] => b
  | b, x :: r => bestOf lt (if lt x b then x else b) r
/-- the greatest, the least of a list, or else d -/
def bestD (lt : Int → Int → Bool) (ns : List Int) (d : V) : V := match ns with
  | [] => d
  | x :: r => .int (bestOf lt x r)
section
variable {X : Cx}
/-- a call of a built-in with keywords, by values -/
def CallKR (X : Cx) (f : Value) (ks : List Str) (r : List V → List V → Hp → VK → Prop) : Prop :=
  ∀ (pins : List (Addr × Obj)) (s : Shared) (σ : St) (H : Hp) (xs zs : List V) (us ws : List Value) (Q : VK), Inv X pins σ H s → Vals xs us → Vals zs ws → r xs zs H Q → wpAny (model X.prog X.w) X.A (call f us (ks.zip ws)) (EP X pins σ Q) X.xe s
def tCBK (r : List V → List V → Hp → VK → Prop) (t tk : TA) : TE := fun σ H Q => t σ H fun vs H1 => tk σ H1 fun zs H2 => r vs zs H2 Q
end
end L2

set_option Elab.async false
set_option linter.all false
set_option maxRecDepth 100000
set_option exponentiation.threshold 2000
namespace L2
open PySem PySem.Spec PyProof.Rows
section
variable {X : Cx} {pins : List (Addr × Obj)} {σ : St} {H : Hp} {s : Shared}
theorem rcAt_rep (I : Inv X pins σ H s) (A : Around) (d e : PD) (v w : V) (u y : Value) (h : Rep X.K H d v) (h' : Rep X.K H e w) (r : RelV v u) (r' : RelV w y) (z : A.units + depthD d < cLine) : SeqAt.RcAt A s u y (pyEq d e) := by
  cases d with
  | non =>
    rw [Rep] at h; subst h; cases r
    cases e with
    | non =>
      rw [Rep] at h'
      subst h'; cases r'
      rw [pyEq]; exact SeqAt.RcAt.none_none
    | bl b =>
      rw [Rep] at h'
      subst h'; cases r'
      exact SeqAt.RcAt.none_bool b
    | int b =>
      rw [Rep] at h'
      subst h'; obtain ⟨t, rfl⟩ := r'
      exact SeqAt.RcAt.none_int b t
    | str b =>
      rw [Rep] at h'
      subst h'; obtain ⟨t, rfl⟩ := r'
      exact SeqAt.RcAt.none_str b t
    | lst es =>
      rw [Rep] at h'
      obtain ⟨b, ys, rfl, q', qs'⟩ := h'; cases r'
      obtain ⟨its', rv', p', _⟩ := I.list q'
      exact SeqAt.RcAt.none_list p'.isList (by omega)
    | tup es =>
      rw [Rep] at h'
      obtain ⟨b, ys, rfl, q', qs'⟩ := h'; cases r'
      obtain ⟨its', rv', p', _⟩ := I.tuple q'
      exact SeqAt.RcAt.none_tuple p' (by omega)
  | bl c =>
    rw [Rep] at h; subst h; cases r
    cases e with
    | non =>
      rw [Rep] at h'
      subst h'; cases r'
      exact SeqAt.RcAt.bool_none c
    | bl b =>
      rw [Rep] at h'
      subst h'; cases r'
      exact SeqAt.RcAt.bool_bool c b
    | int b =>
      rw [Rep] at h'
      subst h'; obtain ⟨t, rfl⟩ := r'
      exact SeqAt.RcAt.bool_int c b t
    | str b =>
      rw [Rep] at h'
      subst h'; obtain ⟨t, rfl⟩ := r'
      exact SeqAt.RcAt.bool_str c b t
    | lst es =>
      rw [Rep] at h'
      obtain ⟨b, ys, rfl, q', qs'⟩ := h'; cases r'
      obtain ⟨its', rv', p', _⟩ := I.list q'
      exact SeqAt.RcAt.bool_list c p'.isList (by omega)
    | tup es =>
      rw [Rep] at h'
      obtain ⟨b, ys, rfl, q', qs'⟩ := h'; cases r'
      obtain ⟨its', rv', p', _⟩ := I.tuple q'
      exact SeqAt.RcAt.bool_tuple c p' (by omega)
  | int c =>
    rw [Rep] at h; subst h; obtain ⟨tc, rfl⟩ := r
    cases e with
    | non =>
      rw [Rep] at h'
      subst h'; cases r'
      exact SeqAt.RcAt.int_none c tc
    | bl b =>
      rw [Rep] at h'
      subst h'; cases r'
      exact SeqAt.RcAt.int_bool c tc b
    | int b =>
      rw [Rep] at h'
      subst h'; obtain ⟨t, rfl⟩ := r'
      exact SeqAt.RcAt.int_int c tc b t
    | str b =>
      rw [Rep] at h'
      subst h'; obtain ⟨t, rfl⟩ := r'
      exact SeqAt.RcAt.int_str c tc b t
    | lst es =>
      rw [Rep] at h'
      obtain ⟨b, ys, rfl, q', qs'⟩ := h'; cases r'
      obtain ⟨its', rv', p', _⟩ := I.list q'
      exact SeqAt.RcAt.int_list c tc p'.isList (by omega)
    | tup es =>
      rw [Rep] at h'
      obtain ⟨b, ys, rfl, q', qs'⟩ := h'; cases r'
      obtain ⟨its', rv', p', _⟩ := I.tuple q'
      exact SeqAt.RcAt.int_tuple c tc p' (by omega)
  | str c =>
    rw [Rep] at h; subst h; obtain ⟨tc, rfl⟩ := r
    cases e with
    | non =>
      rw [Rep] at h'
      subst h'; cases r'
      exact SeqAt.RcAt.str_none c tc
    | bl b =>
      rw [Rep] at h'
      subst h'; cases r'
      exact SeqAt.RcAt.str_bool c tc b
    | int b =>
      rw [Rep] at h'
      subst h'; obtain ⟨t, rfl⟩ := r'
      exact SeqAt.RcAt.str_int c tc b t
    | str b =>
      rw [Rep] at h'
      subst h'; obtain ⟨t, rfl⟩ := r'
      exact SeqAt.RcAt.str_str c tc b t
    | lst es =>
      rw [Rep] at h'
      obtain ⟨b, ys, rfl, q', qs'⟩ := h'; cases r'
      obtain ⟨its', rv', p', _⟩ := I.list q'
      exact SeqAt.RcAt.str_list c tc p'.isList (by omega)
    | tup es =>
      rw [Rep] at h'
      obtain ⟨b, ys, rfl, q', qs'⟩ := h'; cases r'
      obtain ⟨its', rv', p', _⟩ := I.tuple q'
      exact SeqAt.RcAt.str_tuple c tc p' (by omega)
  | lst ds =>
    rw [Rep] at h; obtain ⟨a, xs, rfl, q, qs⟩ := h; cases r
    obtain ⟨its, rv, p, _⟩ := I.list q
    cases e with
    | non =>
      rw [Rep] at h'
      subst h'; cases r'
      exact SeqAt.RcAt.list_none p.isList (by omega)
    | bl b =>
      rw [Rep] at h'
      subst h'; cases r'
      exact SeqAt.RcAt.list_bool b p.isList (by omega)
    | int b =>
      rw [Rep] at h'
      subst h'; obtain ⟨t, rfl⟩ := r'
      exact SeqAt.RcAt.list_int b t p.isList (by omega)
    | str b =>
      rw [Rep] at h'
      subst h'; obtain ⟨t, rfl⟩ := r'
      exact SeqAt.RcAt.list_str b t p.isList (by omega)
    | lst es =>
      rw [Rep] at h'
      obtain ⟨b, ys, rfl, q', qs'⟩ := h'; cases r'
      obtain ⟨its', rv', p', _⟩ := I.list q'
      rw [pyEq]
      rw [depthD] at z
      have l1 := qs.length
      have l2 := qs'.length
      have l3 := rv.length
      have l4 := rv'.length
      by_cases hl : ds.length = es.length
      · rw [← pyEqs_range ds es hl]
        have := SeqAt.RcAt.lists (e := eqJ ds es) p.isList p'.isList (by simp; omega) (by omega) (fun j h1 h2 => ?_) (A := A)
        · simp only [List.size_toArray] at this
          rw [show ds.length = its.length by omega]
          exact this
        · have := eqAts_rep I A.in1 ds es xs ys its its' qs qs' rv rv' (by rw [Around.in1_units]; omega) j (by simpa using h1) (by simpa using h2)
          simpa using this
      · rw [pyEqs_len hl]
        exact SeqAt.RcAt.lists_lengths p.isList p'.isList (by simp; omega) (by omega)
    | tup es =>
      rw [Rep] at h'
      obtain ⟨b, ys, rfl, q', qs'⟩ := h'; cases r'
      obtain ⟨its', rv', p', _⟩ := I.tuple q'
      exact SeqAt.RcAt.list_tuple p.isList p' (by omega)
  | tup ds =>
    rw [Rep] at h; obtain ⟨a, xs, rfl, q, qs⟩ := h; cases r
    obtain ⟨its, rv, p, _⟩ := I.tuple q
    cases e with
    | non =>
      rw [Rep] at h'
      subst h'; cases r'
      exact SeqAt.RcAt.tuple_none p (by omega)
    | bl b =>
      rw [Rep] at h'
      subst h'; cases r'
      exact SeqAt.RcAt.tuple_bool b p (by omega)
    | int b =>
      rw [Rep] at h'
      subst h'; obtain ⟨t, rfl⟩ := r'
      exact SeqAt.RcAt.tuple_int b t p (by omega)
    | str b =>
      rw [Rep] at h'
      subst h'; obtain ⟨t, rfl⟩ := r'
      exact SeqAt.RcAt.tuple_str b t p (by omega)
    | lst es =>
      rw [Rep] at h'
      obtain ⟨b, ys, rfl, q', qs'⟩ := h'; cases r'
      obtain ⟨its', rv', p', _⟩ := I.list q'
      exact SeqAt.RcAt.tuple_list p p'.isList (by omega)
    | tup es =>
      rw [Rep] at h'
      obtain ⟨b, ys, rfl, q', qs'⟩ := h'; cases r'
      obtain ⟨its', rv', p', _⟩ := I.tuple q'
      rw [pyEq]
      rw [depthD] at z
      have l1 := qs.length
      have l2 := qs'.length
      have l3 := rv.length
      have l4 := rv'.length
      have := SeqAt.RcAt.tuples (e := eqJ ds es) p p' (by omega) (fun j h1 h2 => ?_) (A := A)
      · simp only [List.size_toArray] at this
        by_cases hl : ds.length = es.length
        · rw [← pyEqs_range ds es hl]
          rw [show min its.length its'.length = ds.length by omega, show (its.length == its'.length) = true by simp; omega, Bool.and_true] at this
          exact this
        · rw [pyEqs_len hl]
          rw [show (its.length == its'.length) = false by simp; omega, Bool.and_false] at this
          exact this
      · have := eqAts_rep I A.in1 ds es xs ys its its' qs qs' rv rv' (by rw [Around.in1_units]; omega) j (by simpa using h1) (by simpa using h2)
        simpa using this
theorem rcNeAt_rep (I : Inv X pins σ H s) (A : Around) (d e : PD) (v w : V) (u y : Value) (h : Rep X.K H d v) (h' : Rep X.K H e w) (r : RelV v u) (r' : RelV w y) (z : A.units + depthD d < cLine) : SeqAt.RcNeAt A s u y (!pyEq d e) := by
  cases d with
  | non =>
    rw [Rep] at h; subst h; cases r
    cases e with
    | non =>
      rw [Rep] at h'
      subst h'; cases r'
      rw [pyEq]; exact SeqAt.RcNeAt.none_none
    | bl b =>
      rw [Rep] at h'
      subst h'; cases r'
      exact SeqAt.RcNeAt.none_bool b
    | int b =>
      rw [Rep] at h'
      subst h'; obtain ⟨t, rfl⟩ := r'
      exact SeqAt.RcNeAt.none_int b t
    | str b =>
      rw [Rep] at h'
      subst h'; obtain ⟨t, rfl⟩ := r'
      exact SeqAt.RcNeAt.none_str b t
    | lst es =>
      rw [Rep] at h'
      obtain ⟨b, ys, rfl, q', qs'⟩ := h'; cases r'
      obtain ⟨its', rv', p', _⟩ := I.list q'
      exact SeqAt.RcNeAt.none_list p'.isList (by omega)
    | tup es =>
      rw [Rep] at h'
      obtain ⟨b, ys, rfl, q', qs'⟩ := h'; cases r'
      obtain ⟨its', rv', p', _⟩ := I.tuple q'
      exact SeqAt.RcNeAt.none_tuple p' (by omega)
  | bl c =>
    rw [Rep] at h; subst h; cases r
    cases e with
    | non =>
      rw [Rep] at h'
      subst h'; cases r'
      exact SeqAt.RcNeAt.bool_none c
    | bl b =>
      rw [Rep] at h'
      subst h'; cases r'
      exact SeqAt.RcNeAt.bool_bool c b
    | int b =>
      rw [Rep] at h'
      subst h'; obtain ⟨t, rfl⟩ := r'
      exact SeqAt.RcNeAt.bool_int c b t
    | str b =>
      rw [Rep] at h'
      subst h'; obtain ⟨t, rfl⟩ := r'
      exact SeqAt.RcNeAt.bool_str c b t
    | lst es =>
      rw [Rep] at h'
      obtain ⟨b, ys, rfl, q', qs'⟩ := h'; cases r'
      obtain ⟨its', rv', p', _⟩ := I.list q'
      exact SeqAt.RcNeAt.bool_list c p'.isList (by omega)
    | tup es =>
      rw [Rep] at h'
      obtain ⟨b, ys, rfl, q', qs'⟩ := h'; cases r'
      obtain ⟨its', rv', p', _⟩ := I.tuple q'
      exact SeqAt.RcNeAt.bool_tuple c p' (by omega)
  | int c =>
    rw [Rep] at h; subst h; obtain ⟨tc, rfl⟩ := r
    cases e with
    | non =>
      rw [Rep] at h'
      subst h'; cases r'
      exact SeqAt.RcNeAt.int_none c tc
    | bl b =>
      rw [Rep] at h'
      subst h'; cases r'
      exact SeqAt.RcNeAt.int_bool c tc b
    | int b =>
      rw [Rep] at h'
      subst h'; obtain ⟨t, rfl⟩ := r'
      exact SeqAt.RcNeAt.int_int c tc b t
    | str b =>
      rw [Rep] at h'
      subst h'; obtain ⟨t, rfl⟩ := r'
      exact SeqAt.RcNeAt.int_str c tc b t
    | lst es =>
      rw [Rep] at h'
      obtain ⟨b, ys, rfl, q', qs'⟩ := h'; cases r'
      obtain ⟨its', rv', p', _⟩ := I.list q'
      exact SeqAt.RcNeAt.int_list c tc p'.isList (by omega)
    | tup es =>
      rw [Rep] at h'
      obtain ⟨b, ys, rfl, q', qs'⟩ := h'; cases r'
      obtain ⟨its', rv', p', _⟩ := I.tuple q'
      exact SeqAt.RcNeAt.int_tuple c tc p' (by omega)
  | str c =>
    rw [Rep] at h; subst h; obtain ⟨tc, rfl⟩ := r
    cases e with
    | non =>
      rw [Rep] at h'
      subst h'; cases r'
      exact SeqAt.RcNeAt.str_none c tc
    | bl b =>
      rw [Rep] at h'
      subst h'; cases r'
      exact SeqAt.RcNeAt.str_bool c tc b
    | int b =>
      rw [Rep] at h'
      subst h'; obtain ⟨t, rfl⟩ := r'
      exact SeqAt.RcNeAt.str_int c tc b t
    | str b =>
      rw [Rep] at h'
      subst h'; obtain ⟨t, rfl⟩ := r'
      exact SeqAt.RcNeAt.str_str c tc b t
    | lst es =>
      rw [Rep] at h'
      obtain ⟨b, ys, rfl, q', qs'⟩ := h'; cases r'
      obtain ⟨its', rv', p', _⟩ := I.list q'
      exact SeqAt.RcNeAt.str_list c tc p'.isList (by omega)
    | tup es =>
      rw [Rep] at h'
      obtain ⟨b, ys, rfl, q', qs'⟩ := h'; cases r'
      obtain ⟨its', rv', p', _⟩ := I.tuple q'
      exact SeqAt.RcNeAt.str_tuple c tc p' (by omega)
  | lst ds =>
    rw [Rep] at h; obtain ⟨a, xs, rfl, q, qs⟩ := h; cases r
    obtain ⟨its, rv, p, _⟩ := I.list q
    cases e with
    | non =>
      rw [Rep] at h'
      subst h'; cases r'
      exact SeqAt.RcNeAt.list_none p.isList (by omega)
    | bl b =>
      rw [Rep] at h'
      subst h'; cases r'
      exact SeqAt.RcNeAt.list_bool b p.isList (by omega)
    | int b =>
      rw [Rep] at h'
      subst h'; obtain ⟨t, rfl⟩ := r'
      exact SeqAt.RcNeAt.list_int b t p.isList (by omega)
    | str b =>
      rw [Rep] at h'
      subst h'; obtain ⟨t, rfl⟩ := r'
      exact SeqAt.RcNeAt.list_str b t p.isList (by omega)
    | lst es =>
      rw [Rep] at h'
      obtain ⟨b, ys, rfl, q', qs'⟩ := h'; cases r'
      obtain ⟨its', rv', p', _⟩ := I.list q'
      rw [pyEq]
      rw [depthD] at z
      have l1 := qs.length
      have l2 := qs'.length
      have l3 := rv.length
      have l4 := rv'.length
      by_cases hl : ds.length = es.length
      · rw [← pyEqs_range ds es hl]
        have := SeqAt.RcNeAt.lists (e := eqJ ds es) p.isList p'.isList (by simp; omega) (by omega) (fun j h1 h2 => ?_) (A := A)
        · simp only [List.size_toArray] at this
          rw [show ds.length = its.length by omega]
          exact this
        · have := eqAts_rep I A.in1 ds es xs ys its its' qs qs' rv rv' (by rw [Around.in1_units]; omega) j (by simpa using h1) (by simpa using h2)
          simpa using this
      · rw [pyEqs_len hl]
        exact SeqAt.RcNeAt.lists_lengths p.isList p'.isList (by simp; omega) (by omega)
    | tup es =>
      rw [Rep] at h'
      obtain ⟨b, ys, rfl, q', qs'⟩ := h'; cases r'
      obtain ⟨its', rv', p', _⟩ := I.tuple q'
      exact SeqAt.RcNeAt.list_tuple p.isList p' (by omega)
  | tup ds =>
    rw [Rep] at h; obtain ⟨a, xs, rfl, q, qs⟩ := h; cases r
    obtain ⟨its, rv, p, _⟩ := I.tuple q
    cases e with
    | non =>
      rw [Rep] at h'
      subst h'; cases r'
      exact SeqAt.RcNeAt.tuple_none p (by omega)
    | bl b =>
      rw [Rep] at h'
      subst h'; cases r'
      exact SeqAt.RcNeAt.tuple_bool b p (by omega)
    | int b =>
      rw [Rep] at h'
      subst h'; obtain ⟨t, rfl⟩ := r'
      exact SeqAt.RcNeAt.tuple_int b t p (by omega)
    | str b =>
      rw [Rep] at h'
      subst h'; obtain ⟨t, rfl⟩ := r'
      exact SeqAt.RcNeAt.tuple_str b t p (by omega)
    | lst es =>
      rw [Rep] at h'
      obtain ⟨b, ys, rfl, q', qs'⟩ := h'; cases r'
      obtain ⟨its', rv', p', _⟩ := I.list q'
      exact SeqAt.RcNeAt.tuple_list p p'.isList (by omega)
    | tup es =>
      rw [Rep] at h'
      obtain ⟨b, ys, rfl, q', qs'⟩ := h'; cases r'
      obtain ⟨its', rv', p', _⟩ := I.tuple q'
      rw [pyEq]
      rw [depthD] at z
      have l1 := qs.length
      have l2 := qs'.length
      have l3 := rv.length
      have l4 := rv'.length
      have := SeqAt.RcNeAt.tuples (e := eqJ ds es) p p' (by omega) (fun j h1 h2 => ?_) (A := A)
      · simp only [List.size_toArray] at this
        by_cases hl : ds.length = es.length
        · rw [← pyEqs_range ds es hl]
          rw [show min its.length its'.length = ds.length by omega, show (its.length == its'.length) = true by simp; omega, Bool.and_true] at this
          exact this
        · rw [pyEqs_len hl]
          rw [show (its.length == its'.length) = false by simp; omega, Bool.and_false] at this
          exact this
      · have := eqAts_rep I A.in1 ds es xs ys its its' qs qs' rv rv' (by rw [Around.in1_units]; omega) j (by simpa using h1) (by simpa using h2)
        simpa using this
end
/-- room for what is compared -/
def RoomD (X : Cx) : Prop := X.A.units + 60 < cLine
section
variable {X : Cx}
def rEqD (K : PySem.W.Frag) : R2 := fun x y H Q => ∃ d e, Rep K H d x ∧ Rep K H e y ∧ depthD d < 60 ∧ Q (.bl (pyEq d e)) H
def rNeD (K : PySem.W.Frag) : R2 := fun x y H Q => ∃ d e, Rep K H d x ∧ Rep K H e y ∧ depthD d < 60 ∧ Q (.bl (!pyEq d e)) H
theorem op_eqD (hr : RoomD X) : OpR X (compareOp .Eq) (rEqD X.K) := by
  intro pins s σ H x y v u Q I rx ry h
  obtain ⟨d, e, h1, h2, h3, q⟩ := h
  unfold RoomD at hr
  exact rcAt_rep I X.A d e x y v u h1 h2 rx ry (by omega) X.prog X.w _ _ ⟨.bl _, H, I, rfl, q⟩
theorem op_neD (hr : RoomD X) : OpR X (compareOp .NotEq) (rNeD X.K) := by
  intro pins s σ H x y v u Q I rx ry h
  obtain ⟨d, e, h1, h2, h3, q⟩ := h
  unfold RoomD at hr
  exact rcNeAt_rep I X.A d e x y v u h1 h2 rx ry (by omega) X.prog X.w _ _ ⟨.bl _, H, I, rfl, q⟩
theorem roomD_of {A : Around} {k : Nat} (hr : Room k A) : A.units + 60 < cLine := Nat.lt_of_le_of_lt (Nat.add_le_add_left (by decide : 60 ≤ 64) _) hr.units

/-! ### isinstance of one built-in class -/
def tyName (K : PySem.W.Frag) (H : Hp) (x : V) (n : String) : Prop := TyOf K H x (.type n)
def isA (n c : String) : Bool := n == c || (n == "bool" && c == "int")
theorem call_isinst {n : String} : CallR X (.builtin "isinstance") (fun xs H Q => ∃ x t c b, xs = [x, .ty c] ∧ TyOf X.K H x (.type t) ∧ PySem.W.kitOne X.K (.type t) (.type c) = some b ∧ Q (.bl b) H) := by
  intro pins s σ H xs us Q I r h
  obtain ⟨x, t, c, b, rfl, ty, e, q⟩ := h
  obtain ⟨u, w', rfl, ru, rw'⟩ := vals2 r
  cases rw'
  exact isinst_ok I ru ty e fun tk => ⟨.bl b, H, I.tok tk, rfl, q⟩

/-! ### a, b = a list -/
def gLst (K : PySem.W.Frag) (n : Nat) (t : TGs) : TG := fun v σ H Q => ∃ a xs, v = .ref a ∧ SqL K H a xs ∧ xs.length = n ∧ t xs σ H Q
end
end L2

set_option Elab.async false
set_option linter.all false
set_option maxRecDepth 100000
set_option exponentiation.threshold 2000
namespace L2
open PySem PySem.Spec PyProof.Rows
section
variable {prog : Program} {w : World} {A : Around} {E : Value → Shared → Prop}
end
section
variable {X : Cx}
end

/-! ### the forms of a comprehension that one uses -/
section
variable {K : PySem.W.Frag} {a p : Addr} {xs : List V} {g : TG} {tc : TT} {te : TE} {σ : St} {H : Hp} {Q : VK}
/-- one turn -/
abbrev LcTurn (p : Addr) (g : TG) (tc : TT) (te : TE) (ys : List V) (x : V) (σ : St) (H : Hp) (N : St → List V → Hp → Prop) : Prop :=
  g x σ H fun σ2 H2 => tc σ2 H2 fun b H3 => if b = true then te σ2 H3 fun y H4 => H4 p = some (.lst ys) ∧ N σ2 (ys ++ [y]) (upd H4 p (.lst (ys ++ [y]))) else N σ2 ys H3
theorem lc_gen {n : Nat} {J : It} {js : Cap} (Pv : Nat → St → List V → Hp → Prop) (h0 : Pv 0 (inn js σ) [] (upd H p (.lst [])))
    (hl : ∀ i σ ys H, i ≤ n → Pv i σ ys H → H p = some (.lst ys) ∧ ys.length < sizeLine)
    (hgo : ∀ i σ ys H, i < n → Pv i σ ys H → J.go i H) (hst : ∀ σ ys H, Pv n σ ys H → J.stop n H)
    (hs : ∀ (i : Nat) x σ ys H H' (N : St → List V → Hp → Prop), i < n → J.yld i H x H' → Pv i σ ys H → (∀ σ' ys' H', Pv (i + 1) σ' ys' H' → N σ' ys' H') → LcTurn p g tc te ys x σ H' N)
    (hd : ∀ σ ys H, Pv n σ ys H → Q (.ref p) H) :
    LcGoal J p js g tc te σ H Q := by
  refine ⟨fun i m σ ys H => m = n - i ∧ i ≤ n ∧ Pv i σ ys H, ⟨n, by simp, Nat.zero_le _, h0⟩, ?_⟩
  rintro i m σ ys H ⟨rfl, hi, pv⟩
  obtain ⟨q1, q2⟩ := hl i σ ys H hi pv
  refine ⟨q1, ?_⟩
  by_cases lt : i < n
  · exact .inr ⟨hgo i σ ys H lt pv, q2, fun x H' y => hs i x σ ys H H' (fun σ2 ys2 H2 => ∃ m', m' < n - i ∧ m' = n - (i + 1) ∧ i + 1 ≤ n ∧ Pv (i + 1) σ2 ys2 H2) lt y pv fun σ' ys' H' p' => ⟨n - (i + 1), by omega, rfl, lt, p'⟩⟩
  · have e : i = n := by omega
    subst e
    exact .inl ⟨hst σ ys H pv, hd σ ys H pv⟩
theorem lc_list {js : Cap} (Pv : Nat → St → List V → Hp → Prop) (h0 : Pv 0 (inn js σ) [] (upd H p (.lst [])))
    (hl : ∀ i σ ys H, i ≤ xs.length → Pv i σ ys H → SqL K H a xs ∧ H p = some (.lst ys) ∧ ys.length < sizeLine)
    (hs : ∀ (i : Nat) x σ ys H (N : St → List V → Hp → Prop), xs[i]? = some x → Pv i σ ys H → (∀ σ' ys' H', Pv (i + 1) σ' ys' H' → N σ' ys' H') → LcTurn p g tc te ys x σ H N)
    (hd : ∀ σ ys H, Pv xs.length σ ys H → Q (.ref p) H) : LcGoal (Itl K a) p js g tc te σ H Q :=
  lc_gen (n := xs.length) (J := Itl K a) (js := js) (σ := σ) (H := H) (p := p) (Q := Q) (g := g) (tc := tc) (te := te) Pv h0 (fun i σ ys H hi pv => (hl i σ ys H hi pv).2)
    (fun i σ ys H hi pv => ⟨xs, xs[i], (hl i σ ys H (Nat.le_of_lt hi) pv).1, by simp [hi]⟩) (fun σ ys H pv => ⟨xs, (hl _ σ ys H (Nat.le_refl _) pv).1, Nat.le_refl _⟩)
    (fun i x σ ys H H' N hi y pv hN => by
      obtain ⟨e, y⟩ := y
      subst e
      exact hs i x σ ys _ N (y xs (hl i σ ys _ (Nat.le_of_lt hi) pv).1) pv hN) hd
theorem lc_tup {js : Cap} (Pv : Nat → St → List V → Hp → Prop) (h0 : Pv 0 (inn js σ) [] (upd H p (.lst [])))
    (hl : ∀ i σ ys H, i ≤ xs.length → Pv i σ ys H → SqT K H a xs ∧ H p = some (.lst ys) ∧ ys.length < sizeLine)
    (hs : ∀ (i : Nat) x σ ys H (N : St → List V → Hp → Prop), xs[i]? = some x → Pv i σ ys H → (∀ σ' ys' H', Pv (i + 1) σ' ys' H' → N σ' ys' H') → LcTurn p g tc te ys x σ H N)
    (hd : ∀ σ ys H, Pv xs.length σ ys H → Q (.ref p) H) : LcGoal (Itt K a) p js g tc te σ H Q :=
  lc_gen (n := xs.length) (J := Itt K a) (js := js) (σ := σ) (H := H) (p := p) (Q := Q) (g := g) (tc := tc) (te := te) Pv h0 (fun i σ ys H hi pv => (hl i σ ys H hi pv).2)
    (fun i σ ys H hi pv => ⟨xs, xs[i], (hl i σ ys H (Nat.le_of_lt hi) pv).1, by simp [hi]⟩) (fun σ ys H pv => ⟨xs, (hl _ σ ys H (Nat.le_refl _) pv).1, Nat.le_refl _⟩)
    (fun i x σ ys H H' N hi y pv hN => by
      obtain ⟨e, y⟩ := y
      subst e
      exact hs i x σ ys _ N (y xs (hl i σ ys _ (Nat.le_of_lt hi) pv).1) pv hN) hd
theorem lc_range {js : Cap} {lo : Int} {n : Nat} (Pv : Nat → St → List V → Hp → Prop) (h0 : Pv 0 (inn js σ) [] (upd H p (.lst [])))
    (hl : ∀ i σ ys H, i ≤ n → Pv i σ ys H → H p = some (.lst ys) ∧ ys.length < sizeLine)
    (hs : ∀ (i : Nat) σ ys H (N : St → List V → Hp → Prop), i < n → Pv i σ ys H → (∀ σ' ys' H', Pv (i + 1) σ' ys' H' → N σ' ys' H') → LcTurn p g tc te ys (.int (lo + i)) σ H N)
    (hd : ∀ σ ys H, Pv n σ ys H → Q (.ref p) H) : LcGoal (Itr lo n) p js g tc te σ H Q :=
  lc_gen (n := n) (J := Itr lo n) (js := js) (σ := σ) (H := H) (p := p) (Q := Q) (g := g) (tc := tc) (te := te) Pv h0 hl
    (fun i σ ys H hi pv => hi) (fun σ ys H pv => Nat.le_refl n)
    (fun i x σ ys H H' N hi y pv hN => by
      obtain ⟨e, y⟩ := y
      subst e y
      exact hs i σ ys _ N hi pv hN) hd
end

/-! ### the block's names are well: by looking -/
def capCheck (outer : Scope) (N N' : List Str) (js : Cap) (scope : Scope) : Bool :=
  decide (js.length = N'.length) && (scope.kind == .function) && scope.names.all (fun p => p.2 != .cell && (p.2 != .local || scope.names.lookup p.1 == some .local) && (p.2 != .free || (outer.names.lookup p.1 == some .cell || outer.names.lookup p.1 == some .free)))
    && (List.range js.length).all fun i => match js[i]? with
      | some (some j) => (match N'[i]? with | some x => N[j]? == some x && scope.names.lookup x == some .free | none => false)
      | _ => true
theorem capOk {X : Cx} {N N' : List Str} {js : Cap} {scope outer : Scope} (h : capCheck outer N N' js scope = true) (hN : X.N = N := by rfl) (ho : X.env.scope = outer := by rfl) : CapOk X N' js scope := by
  subst hN ho
  unfold capCheck at h
  rw [Bool.and_eq_true, Bool.and_eq_true, Bool.and_eq_true] at h
  obtain ⟨⟨⟨h1, h2⟩, h3⟩, h4⟩ := h
  rw [List.all_eq_true] at h3 h4
  refine ⟨of_decide_eq_true h1, eq_of_beq h2, fun p hp e => ?_, fun p hp e => ?_, fun p hp e => ?_, fun i j e => ?_⟩
  · have := h3 p hp
    rw [e] at this
    simp at this
  · have := h3 p hp
    rw [e] at this
    simp at this
    exact this
  · have := h3 p hp
    rw [e] at this
    simp at this
    exact this
  · have hi : i < js.length := (List.getElem?_eq_some_iff.mp e).1
    have := h4 i (List.mem_range.mpr hi)
    rw [e] at this
    simp only at this
    cases q : N'[i]? with
    | none => rw [q] at this; cases this
    | some x =>
      rw [q] at this
      simp only [Bool.and_eq_true, beq_iff_eq] at this
      exact ⟨x, rfl, this.1, this.2⟩
end L2

set_option Elab.async false
set_option linter.all false
set_option maxRecDepth 100000
set_option exponentiation.threshold 2000
namespace L2
open PySem PySem.Spec PyProof.Rows

/-! ### a def of the text that keeps a promise -/
def FnH (P : Program) (w : World) (K : PySem.W.Frag) (mg : Str → Option Value) (base : Heap) (k : Nat) (x : Str) (ps : List Str) (sp : Sp) : Prop :=
  ∃ f fd, FnOk P w K mg base CX0 k f fd ps sp ∧ Binds K fd ps [] ∧ PySem.W.keepIn K (.ref f) = true ∧ mg x = some (.ref f)
section
variable {X : Cx} {k : Nat} {x : Str} {ps : List Str} {sp : Sp} {e : Expr} {es : List Expr} {t : TA} {p pos : Pos}
theorem pe_fn (F : FnH X.prog X.w X.K X.mg X.base k x ps sp) (hr : Room k X.A) (hg : Gl X x) (ha : PA X (e :: es) t) (hdb : (x == ("__debug__" : Str)) = false := by decide)
    (he : starEach (e :: es) X.env = (false, eval e X.env) :: starEach es X.env := by rfl) (hpl : (backTo pos (starEach es X.env)).any (·.1) = false := by rfl) : PE X (.Call (.Name x p) (e :: es) [] pos) (tCall sp [] E0 t) := by
  obtain ⟨f, fd, h1, h2, h3, h4⟩ := F
  exact pe_call h1 hr hg h4 h3 h2 .nil pass0 ha hdb he hpl
end
/-- the built-in names stand -/
structure Bl (mg : Str → Option Value) : Prop where
  len_ : mg "len" = none
  range_ : mg "range" = none
  isinstance_ : mg "isinstance" = none
  int_ : mg "int" = none
  bool_ : mg "bool" = none
  tuple_ : mg "tuple" = none
  list_ : mg "list" = none
  max_ : mg "max" = none
  min_ : mg "min" = none
  all_ : mg "all" = none
  zip_ : mg "zip" = none
  str_ : mg "str" = none
  dict_ : mg "dict" = none
  sorted_ : mg "sorted" = none
  set_ : mg "set" = none
  any_ : mg "any" = none
  sum_ : mg "sum" = none
  enumerate_ : mg "enumerate" = none
  repr_ : mg "repr" = none
  ord_ : mg "ord" = none
  chr_ : mg "chr" = none
  abs_ : mg "abs" = none
  reversed_ : mg "reversed" = none

theorem bt_int : bootBuiltins "int" = some (.type "int") := by decide +kernel
theorem bt_bool : bootBuiltins "bool" = some (.type "bool") := by decide +kernel
theorem bt_tuple : bootBuiltins "tuple" = some (.type "tuple") := by decide +kernel
theorem bt_str : bootBuiltins "str" = some (.type "str") := by decide +kernel
theorem bt_set : bootBuiltins "set" = some (.type "set") := by decide +kernel
theorem bt_isinstance : bootBuiltins "isinstance" = some (.builtin "isinstance") := by decide +kernel
theorem bt_len : bootBuiltins "len" = some (.builtin "len") := by decide +kernel
theorem bt_max : bootBuiltins "max" = some (.builtin "max") := by decide +kernel
theorem bt_min : bootBuiltins "min" = some (.builtin "min") := by decide +kernel
theorem bt_all : bootBuiltins "all" = some (.builtin "all") := by decide +kernel
theorem bt_sorted : bootBuiltins "sorted" = some (.builtin "sorted") := by decide +kernel
theorem small {n : Nat} (h : n ≤ 1000) : n ≤ sizeLine := Nat.le_of_lt (small1000 h)
theorem same_new {H : Hp} {p : Addr} (h : H p = none) (o : HO) : Same H (upd H p o) := fun b u q => by rw [upd_ne (ne_of_none q h)]; exact q

/-! ### an end: none or an int -/
def eV : Option Int → V
  | none => .non
  | some i => .int i
/-! ### the bag -/
def bigM : Int := 618970019642690137449562111
structure Bag (H : Hp) (b g l : Addr) (n : Int) : Prop where
  ex : ∃ (gs ls : List Int) (c st : Int), H b = some (.lst [.ref g, .ref l, .int c, .int st]) ∧ H g = some (.lst (gs.map V.int)) ∧ H l = some (.lst (ls.map V.int)) ∧
    gs.length ≤ 63 ∧ 0 < ls.length ∧ ls.length ≤ 64 ∧ (∀ x ∈ ls, 0 ≤ x ∧ x < 10 ^ 18) ∧ 0 ≤ c ∧ c ≤ n ∧ 0 ≤ st ∧ st < bigM
  gl : g ≠ l
/-- all but the bag's own two lists is as it was -/
def SameB (b g : Addr) (H H' : Hp) : Prop := ∀ a o, H a = some o → a ≠ b → a ≠ g → H' a = some o
theorem Bag.bg {H : Hp} {b g l : Addr} {n : Int} (B : Bag H b g l n) : b ≠ g := by
  obtain ⟨gs, ls, c, st, h1, h2, _⟩ := B.ex
  intro e
  rw [e, h2] at h1
  cases gs with
  | nil => cases h1
  | cons x r => injection h1 with h1; injection h1 with h1; injection h1 with h1 _; cases h1
theorem Bag.bl {H : Hp} {b g l : Addr} {n : Int} (B : Bag H b g l n) : b ≠ l := by
  obtain ⟨gs, ls, c, st, h1, h2, h3, _⟩ := B.ex
  intro e
  rw [e, h3] at h1
  cases ls with
  | nil => cases h1
  | cons x r => injection h1 with h1; injection h1 with h1; injection h1 with h1 _; cases h1
theorem Bag.mono {H : Hp} {b g l : Addr} {n m : Int} (B : Bag H b g l n) (h : n ≤ m) : Bag H b g l m := by
  obtain ⟨⟨gs, ls, c, st, h1, h2, h3, h4, h5, h6, h7, h8, h9, h10⟩, gl⟩ := B
  exact ⟨⟨gs, ls, c, st, h1, h2, h3, h4, h5, h6, h7, h8, Int.le_trans h9 h, h10⟩, gl⟩
theorem Bag.same {H H' : Hp} {b g l : Addr} {n : Int} (B : Bag H b g l n) (h : Same H H') : Bag H' b g l n := by
  obtain ⟨⟨gs, ls, c, st, h1, h2, h3, h4⟩, gl⟩ := B
  exact ⟨⟨gs, ls, c, st, h _ _ h1, h _ _ h2, h _ _ h3, h4⟩, gl⟩
theorem SameB.refl (b g : Addr) (H : Hp) : SameB b g H H := fun _ _ h _ _ => h
theorem SameB.trans {b g : Addr} {H H1 H2 : Hp} (x : SameB b g H H1) (y : SameB b g H1 H2) : SameB b g H H2 := fun a o h n1 n2 => y a o (x a o h n1 n2) n1 n2
theorem Same.sameB {b g : Addr} {H H1 : Hp} (x : Same H H1) : SameB b g H H1 := fun a o h _ _ => x a o h
/-- a tuple is never one of the bag's lists -/
theorem SameB.tup {b g l : Addr} {n : Int} {H H' : Hp} (B : Bag H b g l n) (s : SameB b g H H') {a : Addr} {xs : List V} (h : H a = some (.tup xs)) : H' a = some (.tup xs) := by
  obtain ⟨gs, ls, c, st, h1, h2, _⟩ := B.ex
  exact s a _ h (ne_of h h1 (by intro z; cases z)) (ne_of h h2 (by intro z; cases z))
/-- what was untracked ahead is no part of the bag -/
theorem Bag.free {H : Hp} {b g l : Addr} {n : Int} (B : Bag H b g l n) {p : Addr} (h : H p = none) : p ≠ b ∧ p ≠ g ∧ p ≠ l := by
  obtain ⟨gs, ls, c, st, h1, h2, h3, _⟩ := B.ex
  exact ⟨(ne_of_none h1 h).symm, (ne_of_none h2 h).symm, (ne_of_none h3 h).symm⟩

/-! ### short forms -/
theorem while_then {c : TT} {tb u : TS} {D : Ends} {σ : St} {H : Hp} (W : Nat → St → Hp → Prop) (M : St → Hp → Prop) (h0 : ∃ m, W m σ H)
    (hs : ∀ (m : Nat) σ H (Z : St → Hp → Prop), W m σ H → (∀ σ' H', M σ' H' → Z σ' H') → c σ H fun b H1 => if b = true then ∃ N : St → Hp → Prop, (∀ σ' H', N σ' H' → ∃ m', m' < m ∧ W m' σ' H') ∧ tb { nx := N, rt := D.rt, bk := Z, ct := N } σ H1 else Z σ H1)
    (hd : ∀ σ H, M σ H → u D σ H) : tSeq (tWhile c tb) u D σ H := ⟨W, h0, fun m σ H w => hs m σ H (u D) w hd⟩
theorem rep_ints {K : PySem.W.Frag} {H : Hp} : ∀ ns : List Int, Reps K H (ns.map PD.int) (ns.map V.int)
  | [] => by show Reps K H [] []; rw [Reps]
  | n :: ns => by
    show Reps K H (.int n :: ns.map PD.int) (.int n :: ns.map V.int)
    rw [Reps]
    exact ⟨_, _, rfl, by rw [Rep], rep_ints ns⟩
theorem depth_ints : ∀ ns : List Int, depthDs (ns.map PD.int) = 0
  | [] => by show depthDs [] = 0; rw [depthDs]
  | n :: ns => by
    show depthDs (.int n :: ns.map PD.int) = 0
    rw [depthDs, depth_ints ns, depthD]
    all_goals simp
theorem eqNil {K : PySem.W.Frag} {H : Hp} {a p : Addr} {ns : List Int} {Q : VK} (h : SqL K H a (ns.map V.int)) (hp : SqL K H p []) (q : Q (.bl ns.isEmpty) H) : rEqD K (.ref a) (.ref p) H Q := by
  refine ⟨.lst (ns.map PD.int), .lst [], by rw [Rep]; exact ⟨a, _, rfl, h, rep_ints ns⟩, by rw [Rep]; exact ⟨p, _, rfl, hp, by rw [Reps]⟩, by rw [depthD, depth_ints]; decide, ?_⟩
  cases ns with
  | nil => rw [pyEq, show pyEqs (([] : List Int).map PD.int) [] = true from pyEqs_refl []]; exact q
  | cons n ns => rw [pyEq, pyEqs_len (by simp)]; exact q
theorem neNil {K : PySem.W.Frag} {H : Hp} {a p : Addr} {ns : List Int} {Q : VK} (h : SqL K H a (ns.map V.int)) (hp : SqL K H p []) (q : Q (.bl (!ns.isEmpty)) H) : rNeD K (.ref a) (.ref p) H Q := by
  refine ⟨.lst (ns.map PD.int), .lst [], by rw [Rep]; exact ⟨a, _, rfl, h, rep_ints ns⟩, by rw [Rep]; exact ⟨p, _, rfl, hp, by rw [Reps]⟩, by rw [depthD, depth_ints]; decide, ?_⟩
  cases ns with
  | nil => rw [pyEq, show pyEqs (([] : List Int).map PD.int) [] = true from pyEqs_refl []]; exact q
  | cons n ns => rw [pyEq, pyEqs_len (by simp)]; exact q
theorem at0 {α : Type} {x : α} {r : List α} : atI (x :: r) 0 = some x := atI_nat (j := 0) rfl
theorem ix0 {α : Type} {x : α} {r : List α} : ixN (x :: r).length 0 = some 0 := by
  unfold ixN
  rw [if_pos (by decide), if_pos (by rw [List.length_cons]; omega)]
  rfl
/-- an item at a place that lies in the list -/
theorem atInts {ls : List Int} {i : Int} (h0 : 0 ≤ i) (h1 : i < (ls.length : Int)) : ∃ v, atI (ls.map V.int) i = some (.int v) ∧ v ∈ ls := by
  obtain ⟨k, rfl⟩ := Int.eq_ofNat_of_zero_le h0
  have hk : k < ls.length := by omega
  exact ⟨ls[k], atI_nat (by rw [List.getElem?_map, List.getElem?_eq_getElem hk]; rfl), List.getElem_mem _⟩
theorem sz0 : (0 : Nat) ≤ sizeLine := Nat.zero_le _

/-! ### what the drawing defs promise -/
def spDraw : Sp := fun vs H Q _ => ∃ (b g l : Addr) (n many : Int), vs = [.ref b, .int many] ∧ Bag H b g l n ∧ n ≤ 2 ^ 40 ∧ 0 < many ∧ many < 2 ^ 500 ∧
  ∀ (r : Int) (H' : Hp), 0 ≤ r → r < many → Bag H' b g l (n + 1) → SameB b g H H' → Q (.int r) H'
def spBag (K : PySem.W.Frag) : Sp := fun vs H Q _ => ∃ (a : Addr) (ns : List Int), vs = [.ref a] ∧ SqL K H a (ns.map V.int) ∧ ns.length ≤ 63 ∧
  ∀ (b g l : Addr) (H' : Hp), Bag H' b g l 0 → Same H H' → H b = none → H g = none → Q (.ref b) H'

/-! ### comprehensions over ints, over ends -/
theorem take_snoc {α : Type} {l : List α} {i : Nat} {x : α} (h : l[i]? = some x) : l.take (i + 1) = l.take i ++ [x] := by
  rw [List.take_succ, h]
  rfl
theorem lc_ints {K : PySem.W.Frag} {H : Hp} {a p : Addr} {Q : VK} {js : Cap} {σ cap : St} {tc : TT} {te : TE} (ns : List Int) (f : Int → Int) (c : Int → Bool) (hn : ns.length ≤ 900) (e : SqL K H a (ns.map V.int)) (hp : H p = none) (hσ : inn js σ = none :: cap)
    (ht : ∀ n H' (R : Bool → Hp → Prop), Same H H' → R (c n) H' → tc (some (.int n) :: cap) H' R) (he : ∀ n H' (R : VK), Same H H' → R (.int (f n)) H' → te (some (.int n) :: cap) H' R)
    (hq : ∀ H', Same H H' → H' p = some (.lst (((ns.filter c).map f).map V.int)) → Q (.ref p) H') : LcGoal (Itl K a) p js (gName 0) tc te σ H Q := by
  have s0 := same_new hp (.lst [])
  refine lc_list (xs := ns.map V.int) (fun i σ' ys H' => (∃ v, σ' = v :: cap) ∧ Same H H' ∧ H' p = some (.lst ys) ∧ ys = ((((ns.take i).filter c).map f).map V.int)) ⟨⟨_, hσ⟩, s0, upd_same, rfl⟩ ?_ ?_ ?_
  · rintro i σ' ys H' hi ⟨_, s, h1, h2⟩
    refine ⟨s.seq e, h1, ?_⟩
    rw [h2]
    simp only [List.length_map]
    have := List.length_filter_le c (ns.take i)
    rw [List.length_take] at this
    exact small1000 (by omega)
  · rintro i x σ' ys H' N hx ⟨⟨v, rfl⟩, s, h1, h2⟩ hN
    rw [List.getElem?_map] at hx
    cases hn' : ns[i]? with
    | none => rw [hn'] at hx; cases hx
    | some n =>
      rw [hn'] at hx
      have hx : V.int n = x := Option.some.inj hx
      subst hx
      refine ht n H' _ s ?_
      have e1 := take_snoc hn'
      cases hc : c n with
      | true =>
        refine iteT (he n H' _ s ⟨h1, hN _ _ _ ⟨⟨_, rfl⟩, ?_, upd_same, ?_⟩⟩)
        · intro b o q
          have : b ≠ p := fun z => by rw [z, hp] at q; cases q
          rw [upd_ne this]
          exact s b o q
        · rw [h2, e1, List.filter_append, List.filter_cons, if_pos hc]
          simp
      | false =>
        refine iteF (hN _ _ _ ⟨⟨_, rfl⟩, s, h1, ?_⟩)
        rw [h2, e1, List.filter_append, List.filter_cons, if_neg (by rw [hc]; exact Bool.false_ne_true)]
        simp
  · rintro σ' ys H' ⟨_, s, h1, h2⟩
    refine hq H' s ?_
    rw [h1, h2, List.length_map, List.take_length]
theorem Same.seqT {K : PySem.W.Frag} {H H' : Hp} {a : Addr} {xs : List V} (e : Same H H') (h : SqT K H a xs) : SqT K H' a xs := by
  rcases h with (h | ⟨o, h⟩) | h
  · exact .inl (.inl (e _ _ h))
  · exact .inl (.inr ⟨o, e _ _ h⟩)
  · exact .inr h
end L2

set_option Elab.async false
set_option linter.all false
set_option maxRecDepth 100000
set_option exponentiation.threshold 2000
namespace L2
open PySem PySem.Spec PyProof.Rows
/-- a sequence of values that stays -/
def Itv (xs : List V) : It := ⟨fun i _ => i < xs.length, fun i H x H' => H' = H ∧ xs[i]? = some x, fun i _ => xs.length ≤ i⟩

theorem turn_strascii {P : Program} {w : World} {K : PySem.W.Frag} {tg : Expr} (it : Addr) (x : Str) (t : Tok) : Turn P w K tg (Itv (x.cps.toList.map fun c => V.str ⟨#[c]⟩)) [it] it (fun i h => h.IsStrIter it "str_ascii_iterator" x t i) where
  mem := by simp
  obj := fun i h st b hb => by
    have e : b = it := by simpa using hb
    subst e
    obtain ⟨o, e, c, d⟩ := st
    exact ⟨o, e, fun v z => by rw [d] at z; cases z⟩
  keep := fun i h h' st k => let ⟨o, ho, r⟩ := st; ⟨o, k it (by simp) o ho, r⟩
  item := by
    intro X hP hw hK hc i pins s σ H E I hf st hg
    subst hP hw hK
    have hg : i < (x.cps.toList.map fun c => V.str ⟨#[c]⟩).length := hg
    rw [List.length_map, Array.length_toList] at hg
    obtain ⟨f0, f1, f2, f3, f4, f5⟩ := hf it (by simp)
    refine wpAny_pyNext_ascii_item st (c := x.cps[i]) (by simp [hg]) fun h' st' sb => ?_
    have I1 : Inv X pins σ H { s with heap := h', toks := s.toks + 1 } := I.turned (fun b o hb e => (sb.2 b hb).trans e) f0 f1 f3 f4 f5
    obtain ⟨o, e, c, d⟩ := id st'
    exact ⟨_, rfl, go_of (s := { s with heap := h', toks := s.toks + 1 }) e c d (by decide) ⟨.str ⟨#[x.cps[i]]⟩, H, I1, ⟨_, rfl⟩, ⟨rfl, by rw [List.getElem?_map, Array.getElem?_toList, Array.getElem?_eq_getElem hg]; rfl⟩, st', fun b hb => (hf b hb).1⟩⟩
  done := by
    intro X hP hw hK hc i pins s σ H E I hf st hg
    subst hP hw hK
    have hg : (x.cps.toList.map fun c => V.str ⟨#[c]⟩).length ≤ i := hg
    rw [List.length_map, Array.length_toList] at hg
    obtain ⟨f0, f1, f2, f3, f4, f5⟩ := hf it (by simp)
    exact wpAny_pyNext_ascii_end (I.ok.hd hc) st (by simpa using hg) fun h' eb => ⟨rfl, I.turned (t' := s.toks) (fun b o hb e => eb b o hb e) f0 f1 f3 f4 f5⟩
  self := fun _ _ _ _ _ st h => wpAny_pyIter_striter_ascii st h

theorem turn_strwide {P : Program} {w : World} {K : PySem.W.Frag} {tg : Expr} (it : Addr) (x : Str) (t : Tok) : Turn P w K tg (Itv (x.cps.toList.map fun c => V.str ⟨#[c]⟩)) [it] it (fun i h => h.IsStrIter it "str_iterator" x t i) where
  mem := by simp
  obj := fun i h st b hb => by
    have e : b = it := by simpa using hb
    subst e
    obtain ⟨o, e, c, d⟩ := st
    exact ⟨o, e, fun v z => by rw [d] at z; cases z⟩
  keep := fun i h h' st k => let ⟨o, ho, r⟩ := st; ⟨o, k it (by simp) o ho, r⟩
  item := by
    intro X hP hw hK hc i pins s σ H E I hf st hg
    subst hP hw hK
    have hg : i < (x.cps.toList.map fun c => V.str ⟨#[c]⟩).length := hg
    rw [List.length_map, Array.length_toList] at hg
    obtain ⟨f0, f1, f2, f3, f4, f5⟩ := hf it (by simp)
    refine wpAny_pyNext_wide_item st (c := x.cps[i]) (by simp [hg]) fun h' st' sb => ?_
    have I1 : Inv X pins σ H { s with heap := h', toks := s.toks + 1 } := I.turned (fun b o hb e => (sb.2 b hb).trans e) f0 f1 f3 f4 f5
    obtain ⟨o, e, c, d⟩ := id st'
    exact ⟨_, rfl, go_of (s := { s with heap := h', toks := s.toks + 1 }) e c d (by decide) ⟨.str ⟨#[x.cps[i]]⟩, H, I1, ⟨_, rfl⟩, ⟨rfl, by rw [List.getElem?_map, Array.getElem?_toList, Array.getElem?_eq_getElem hg]; rfl⟩, st', fun b hb => (hf b hb).1⟩⟩
  done := by
    intro X hP hw hK hc i pins s σ H E I hf st hg
    subst hP hw hK
    have hg : (x.cps.toList.map fun c => V.str ⟨#[c]⟩).length ≤ i := hg
    rw [List.length_map, Array.length_toList] at hg
    obtain ⟨f0, f1, f2, f3, f4, f5⟩ := hf it (by simp)
    exact wpAny_pyNext_wide_end (I.ok.hd hc) st (by simpa using hg) fun h' eb => ⟨rfl, I.turned (t' := s.toks) (fun b o hb e => eb b o hb e) f0 f1 f3 f4 f5⟩
  self := fun _ _ _ _ _ st h => wpAny_pyIter_striter_wide st h

section
variable {X : Cx} {tg : Expr}
/-- the signs of a text -/
def signs (x : Str) : List V := x.cps.toList.map fun c => V.str ⟨#[c]⟩
def iStr (tl : TE) : TI := fun σ H R => tl σ H fun v H1 => ∃ x, v = .str x ∧ R (Itv (signs x)) H1
theorem pi_str {l : Expr} {tl : TE} (hl : PE X l tl) : PI X tg l (iStr tl) := by
  intro pins s σ H R I h
  refine thn (hl pins s σ H _ I h) fun v s1 ⟨y, H1, I1, r1, q1⟩ => ?_
  obtain ⟨x, e, q⟩ := q1
  subst e
  obtain ⟨t, rfl⟩ := r1
  cases ha : x.cps.all (· < 128)
  · refine wpAny_pyIter_wide ha ?_
    refine ⟨s1.heap.objs.size, [s1.heap.objs.size], _, _, H1, rfl, I1.kept (t' := s1.toks) fun b o e => Heap.get?_push_of_some _ e, turn_strwide _ x t, ⟨_, Heap.get?_push_size _ rfl, rfl, rfl⟩, fun b hb => ?_, q⟩
    have e : b = s1.heap.objs.size := by simpa using hb
    subst e
    exact I1.fpOk (Nat.le_refl _) (I1.hok.fresh (Nat.le_refl _))
  · refine wpAny_pyIter_ascii ha ?_
    refine ⟨s1.heap.objs.size, [s1.heap.objs.size], _, _, H1, rfl, I1.kept (t' := s1.toks) fun b o e => Heap.get?_push_of_some _ e, turn_strascii _ x t, ⟨_, Heap.get?_push_size _ rfl, rfl, rfl⟩, fun b hb => ?_, q⟩
    have e : b = s1.heap.objs.size := by simpa using hb
    subst e
    exact I1.fpOk (Nat.le_refl _) (I1.hok.fresh (Nat.le_refl _))
theorem op_le_str : OpR X (compareOp .LtE) (fun x y H Q => ∃ i j, x = .str i ∧ y = .str j ∧ Q (.bl (!decide (j.cps.toList < i.cps.toList))) H) := by
  intro pins s σ H x y v u Q I rx ry h
  obtain ⟨i, j, rfl, rfl, q⟩ := h
  obtain ⟨t, rfl⟩ := rx
  obtain ⟨t', rfl⟩ := ry
  exact PySem.P.le_str (fin_bl I q rfl)
/-- all(xs) of a list of truths -/
theorem call_all (hc : X.calm = true) : CallR X (.builtin "all") (fun xs H Q => ∃ (a : Addr) (bs : List Bool), xs = [.ref a] ∧ SqL X.K H a (bs.map V.bl) ∧ Q (.bl (bs.all id)) H) := by
  intro pins s σ H xs us Q I r h
  obtain ⟨a, bs, rfl, hq, q⟩ := h
  obtain ⟨u, rfl, ru⟩ := vals1 r
  cases ru
  obtain ⟨its, rv, p, hzz⟩ := I.list hq
  have ll := rv.length
  rw [List.length_map] at ll
  refine call_all_walk (wpAny_pyIter_list p.isList ?_)
  obtain ⟨o, ho, _⟩ := id p.isList
  have lt := Heap.lt_size ho
  refine ⟨s.heap.objs.size, _, _, _, _, _, fun i => bs.getD i false, rfl, Walks.list (A := X.A.in1) (I.ok.hd hc) s.heap.objs.size a (Nat.ne_of_lt lt) its.toArray, ⟨⟨_, Heap.get?_push_size _ rfl, rfl, rfl⟩, p.isList.at fun o' e => Heap.get?_push_of_some _ e⟩, ?_, fun g t' k => ?_⟩
  · intro i v s' Q' E' hv q'
    have hi : its[i]? = some v := by simpa using hv
    have hl : i < its.length := (List.getElem?_eq_some_iff.mp hi).1
    have e : (bs.map V.bl)[i]? = some (.bl (bs.getD i false)) := by
      rw [List.getElem?_map, List.getElem?_eq_getElem (by omega), List.getD_eq_getElem?_getD, List.getElem?_eq_getElem (by omega)]
      rfl
    obtain ⟨u, h1, h2⟩ := Vals.get rv e
    rw [hi] at h1
    cases h1
    cases h2
    exact wpAny_truthy_bool q'
  · refine ⟨.bl (bs.all id), H, I.kept (fun b o' e => k b o' ?_ (Heap.get?_push_of_some _ e)), ?_, q⟩
    · intro z
      exact absurd (List.mem_singleton.mp z) (Nat.ne_of_lt (Heap.lt_size e))
    · show Value.bool _ = Value.bool _
      congr 1
      rw [List.size_toArray, ← ll]
      clear rv ll hq q p ho lt hzz
      induction bs with
      | nil => rfl
      | cons b r ih =>
        rw [List.length_cons, List.range_succ_eq_map, List.all_cons, List.all_map, List.all_cons, ← ih]
        rfl
end
/-- a comprehension over a sequence that stays -/
theorem lc_itv {xs : List V} {p : Addr} {g : TG} {tc : TT} {te : TE} {σ : St} {H : Hp} {Q : VK} {js : Cap} (Pv : Nat → St → List V → Hp → Prop) (h0 : Pv 0 (inn js σ) [] (upd H p (.lst [])))
    (hl : ∀ i σ ys H, i ≤ xs.length → Pv i σ ys H → H p = some (.lst ys) ∧ ys.length < sizeLine)
    (hs : ∀ (i : Nat) x σ ys H (N : St → List V → Hp → Prop), xs[i]? = some x → Pv i σ ys H → (∀ σ' ys' H', Pv (i + 1) σ' ys' H' → N σ' ys' H') → LcTurn p g tc te ys x σ H N)
    (hd : ∀ σ ys H, Pv xs.length σ ys H → Q (.ref p) H) : LcGoal (Itv xs) p js g tc te σ H Q :=
  lc_gen (n := xs.length) (J := Itv xs) (js := js) (σ := σ) (H := H) (p := p) (Q := Q) (g := g) (tc := tc) (te := te) Pv h0 hl
    (fun i σ ys H hi pv => hi) (fun σ ys H pv => Nat.le_refl _)
    (fun i x σ ys H H' N hi y pv hN => by
      obtain ⟨e, y⟩ := y
      subst e
      exact hs i x σ ys _ N y pv hN) hd
end L2

set_option Elab.async false
set_option linter.all false
set_option maxRecDepth 100000
set_option exponentiation.threshold 2000
namespace L2
open PySem PySem.Spec PyProof.Rows

section
variable {prog : Program} {w : World} {A : Around} {E : Value → Shared → Prop} {R : Result → Shared → Prop} {s : Shared}
/-- a dict comprehension's loop -/
theorem compLoop_goD {kx vx target iter : Expr} {ifs : List Expr} {scope : Scope} {pos : Pos} {it : Value} {D : Addr} {env : Env} (I : Nat → Shared → Prop)
    (turn : ∀ n s, I n s → wpAny (model prog w) A (pyNext it) (fun r s₁ => match r with
      | none => R (.ok .next) s₁
      | some v => wpAny (model prog w) A (letOwnedTupleGo target it v) (fun _ s₁' => wpAny (model prog w) A (assign target env v) (fun _ s₂ =>
          wpAny (model prog w) A (forIn ifs true fun c r => if r = true then do let ok ← isTrue c env (eval c env); pure (ForInStep.yield ok) else pure (ForInStep.yield r)) (fun ok s₃ =>
            if ok = true then wpAny (model prog w) A (eval kx env) (fun kv s₄ => wpAny (model prog w) A (eval vx env) (fun vv s₅ =>
              wpAny (model prog w) A (dictSet D kv vv) (fun _ s₆ => ∃ m, m < n ∧ I m s₆) (fun _ _ => False) s₅) (fun _ _ => False) s₄) (fun _ _ => False) s₃
            else ∃ m, m < n ∧ I m s₃) (fun _ _ => False) s₂) (fun _ _ => False) s₁') (fun _ _ => False) s₁) (fun _ _ => False) s)
    (n : Nat) (h : I n s) :
    codeAny (model prog w) A (.compLoop (.DictComp kx vx [⟨target, iter, ifs, 0⟩] scope pos) 0 it (.ref D) env) R s := by
  refine codeAny_loop rfl I (fun n s hI => ?_) n h
  show wpAny _ A ((compTurn (.DictComp kx vx [⟨target, iter, ifs, 0⟩] scope pos) 0 it (.ref D) env).onRaise (fun x => do noteFrame x env; theTreesLotGoes x)) _ _ s
  refine wpAny_noted ?_
  rw [compTurn_dict]
  refine wpAny_bind (wpAny_standAt (wpAny_bind (wpAny_mono (turn n s hI) (fun r s₁ h₁ => ?_) fun _ _ z => z.elim)))
  cases r with
  | none => exact wpAny_pure h₁
  | some v =>
    refine wpAny_bind (wpAny_mono h₁ (fun _ s₁' h₁' => ?_) fun _ _ z => z.elim)
    refine wpAny_bind (wpAny_mono h₁' (fun _ s₂ h₂ => wpAny_bind (wpAny_mono h₂ (fun ok s₃ h₃ => ?_) fun _ _ z => z.elim)) fun _ _ z => z.elim)
    cases ok with
    | false => exact wpAny_pure ⟨rfl, h₃⟩
    | true =>
      exact wpAny_bind (wpAny_bind (wpAny_mono h₃ (fun kv s₄ h₄ => wpAny_bind (wpAny_holding (wpAny_mono h₄ (fun vv s₅ h₅ => wpAny_bind (wpAny_standAt (wpAny_holding (wpAny_mono h₅ (fun _ s₆ h₆ => wpAny_pure ⟨rfl, h₆⟩) fun _ _ z => z.elim)))) fun _ _ z => z.elim)) ) fun _ _ z => z.elim))
end
/-- what is read of a dict comprehension -/
def DcGoal (J : It) (p : Addr) (js : Cap) (g : TG) (tc : TT) (tk tv : TE) (σ : St) (H : Hp) (Q : VK) : Prop :=
  ∃ W : Nat → Nat → St → List (Key × V) → Hp → Prop, (∃ m, W 0 m (inn js σ) [] (upd H p (.dK []))) ∧ ∀ i m σ' kvs H, W i m σ' kvs H → H p = some (.dK kvs) ∧
    ((J.stop i H ∧ Q (.ref p) H) ∨ (J.go i H ∧ kvs.length < sizeLine ∧ ∀ x H', J.yld i H x H' → g x σ' H' fun σ2 H2 => tc σ2 H2 fun b H3 =>
      if b = true then tk σ2 H3 fun k H4 => tv σ2 H4 fun y H5 => ∃ ky, k = kV ky ∧ H5 p = some (.dK kvs) ∧ ∃ m', m' < m ∧ W (i + 1) m' σ2 (putK kvs ky y) (upd H5 p (.dK (putK kvs ky y)))
      else ∃ m', m' < m ∧ W (i + 1) m' σ2 kvs H3))
def tDC (wi : TI) (js : Cap) (g : TG) (tc : TT) (tk tv : TE) : TE := fun σ H Q => wi σ H fun J H1 => ∀ p, H1 p = none → DcGoal J p js g tc tk tv σ H1 Q
section
variable {X : Cx} {tg iter kx vx : Expr} {ifs : List Expr} {wi : TI} {js : Cap} {g : TG} {tc : TT} {tk tv : TE} {N' : List Str} {scope : Scope} {pos : Pos}
/-- the block of a dict comprehension -/
theorem dc_block {pins : List (Addr × Obj)} {σ : St} {H : Hp} {s : Shared} {E : Value → Shared → Prop} {Q : VK} {J : It} {it : Addr} {fp : List Addr} {tn : Nat → Heap → Prop} {cl : List (Str × Addr)}
    (hc : X.calm = true) (ok : CapOk X N' js scope)
    (h2 : ∀ x c, cl.lookup x = some c → X.env.cells.lookup x = some c) (h3 : ∀ p ∈ scope.names, p.2 = .free → (cl.lookup p.1).isSome = true)
    (hg : ∀ cl C s₀ H₀ ex, PG (lcx X N' scope cl C s₀ H₀ ex) tg g) (ht : ∀ cl C s₀ H₀ ex, PIfs (lcx X N' scope cl C s₀ H₀ ex) ifs tc) (he : ∀ cl C s₀ H₀ ex, PE (lcx X N' scope cl C s₀ H₀ ex) kx tk) (hv : ∀ cl C s₀ H₀ ex, PE (lcx X N' scope cl C s₀ H₀ ex) vx tv)
    (I : Inv X pins σ H s) (T : Turn X.prog X.w X.K tg J fp it tn) (st : tn 0 s.heap) (hf : ∀ b ∈ fp, FpOk X pins H b)
    (hw : ∀ p, H p = none → DcGoal J p js g tc tk tv σ H Q) :
    wpAny (model X.prog X.w) X.A newDict (fun acc s₃ => wpAny (model X.prog X.w) X.A (newFunctionEnv scope X.env.globals cl [] X.env.qual none .none (some X.env)) (fun cenv s₄ =>
      codeAny (model X.prog X.w) X.A (.compStart (.DictComp kx vx [⟨tg, iter, ifs, 0⟩] scope pos) 0 (.ref it) acc { cenv with scope := relabel scope X.env })
        (fun r s' => r = .ok .next ∧ (∃ m, s'.heap.Ns cenv.locals m) ∧ ∃ v H', RelV v acc ∧ Inv X pins σ H' s' ∧ FpOk X pins H' cenv.locals ∧ Q v H') s₄) E s₃) E s := by
  have objs := T.obj _ _ st
  refine wpAny_newObj_type ?_
  -- the list
  obtain ⟨W, ⟨m0, w0⟩, turn⟩ := hw s.heap.objs.size (I.hok.fresh (Nat.le_refl _))
  generalize hp : s.heap.objs.size = p at *
  have kp : ∀ b u, s.heap.get? b = some u → (s.heap.push { cls := .type "dict", data := .dict #[] }).get? b = some u := fun b u e => Heap.get?_push_of_some _ e
  have I3 : Inv X pins σ (upd H p (.dK [])) { s with heap := s.heap.push { cls := .type "dict", data := .dict #[] } } := by
    subst hp
    exact I.laid (t' := s.toks) kp (Nat.le_refl _) (dk_empty s.heap I.big)
  have fne : ∀ b ∈ fp, b ≠ p := fun b hb => by
    obtain ⟨o, e, _⟩ := objs b hb
    have := Heap.lt_size e
    rw [← hp]
    exact Nat.ne_of_lt this
  have hf3 : ∀ b ∈ fp, FpOk X pins (upd H p (.dK [])) b := fun b hb => ⟨by rw [upd_ne (fne b hb)]; exact (hf b hb).1, (hf b hb).2⟩
  have st3 : tn 0 (s.heap.push { cls := .type "dict", data := .dict #[] }) := T.keep _ _ _ st fun b _ o e => kp b o e
  have lt3 : ∀ b ∈ fp, b < (s.heap.push { cls := .type "dict", data := .dict #[] }).objs.size := fun b hb => by
    obtain ⟨o, e, _⟩ := objs b hb
    exact Heap.lt_size (kp b o e)
  generalize hs3 : ({ s with heap := s.heap.push { cls := .type "dict", data := .dict #[] } } : Shared) = s3 at *
  have eh : s.heap.push { cls := .type "dict", data := .dict #[] } = s3.heap := by rw [← hs3]
  rw [eh] at st3 lt3
  refine wpAny_newFunctionEnv ok.ncell (by intro y hy; simp at hy) (fun h₁ hns₁ hsb₁ => ?_) ok.kind
  try dsimp only at hns₁ hsb₁ ⊢
  have k4 : ∀ b u, s3.heap.get? b = some u → h₁.get? b = some u := fun b u e => (hsb₁.2 b (Nat.ne_of_lt (Heap.lt_size e))).trans (Heap.get?_push_of_some _ e)
  have I4 := inv_block (cl := cl) (h₁ := h₁) (t' := s3.toks + ([] : List (Str × Value)).length) ok I3 h2 h3 hf3 lt3 k4 ⟨_, hns₁⟩
  have st4 : tn 0 h₁ := T.keep _ _ _ st3 fun b _ o e => k4 b o e
  generalize hX : lcx X N' scope cl s3.heap.objs.size s3 (upd H p (.dK [])) fp = X' at I4
  have hg' : PG X' tg g := by rw [← hX]; exact hg _ _ _ _ _
  have ht' : PIfs X' ifs tc := by rw [← hX]; exact ht _ _ _ _ _
  have he' : PE X' kx tk := by rw [← hX]; exact he _ _ _ _ _
  have hv' : PE X' vx tv := by rw [← hX]; exact hv _ _ _ _ _
  have eP : X'.prog = X.prog := by rw [← hX]; rfl
  have ew : X'.w = X.w := by rw [← hX]; rfl
  have eK : X'.K = X.K := by rw [← hX]; rfl
  have ec : X'.calm = true := by rw [← hX]; exact hc
  have eA : X'.A = X.A := by rw [← hX]; rfl
  have ex : X'.xe = fun _ _ => False := by rw [← hX]; rfl
  have eE : X'.env = compEnvC scope cl s3.heap.objs.size X.env := by rw [← hX]; rfl
  have eEx : X'.ex = fp := by rw [← hX]; rfl
  have eN : X'.pn = [] := by rw [← hX]; rfl
  -- the iterator's own objects, seen from within
  have stat : ∀ {H' : Hp}, (∀ b ∈ fp, H' b = none) → ∀ b ∈ fp, FpOk X' [] H' b := fun {H'} hn b hb => by
    have okc := I4.ok
    refine ⟨hn b hb, (okc.exf b (by rw [eEx]; exact hb)).1, okc.exfs b (by rw [eEx]; exact hb), .inl (by rw [eEx]; exact hb), (okc.exf b (by rw [eEx]; exact hb)).2, fun q hq => ?_⟩
    rw [eN] at hq
    cases hq
  have loop : ∀ s₄ : Shared, s₄ = { s3 with heap := h₁, toks := s3.toks + ([] : List (Str × Value)).length } →
      codeAny (model X.prog X.w) X.A (.compLoop (.DictComp kx vx [⟨tg, iter, ifs, 0⟩] scope pos) 0 (.ref it) (.ref p) (compEnvC scope cl s3.heap.objs.size X.env))
        (fun r s' => r = .ok .next ∧ (∃ m, s'.heap.Ns s3.heap.objs.size m) ∧ ∃ v H', RelV v (.ref p) ∧ Inv X pins σ H' s' ∧ FpOk X pins H' s3.heap.objs.size ∧ Q v H') s₄ := by
    rintro s₄ rfl
    refine compLoop_goD (fun n s' => ∃ i σ' ys H', Inv X' [] σ' H' s' ∧ tn i s'.heap ∧ (∀ b ∈ fp, H' b = none) ∧ W i n σ' ys H') ?_ m0 ⟨0, _, [], _, I4, st4, fun b hb => (hf3 b hb).1, w0⟩
    rintro n s5 ⟨i, σ5, ys, H5, I5, st5, fr5, w5⟩
    obtain ⟨hp5, tu⟩ := turn i n σ5 ys H5 w5
    rcases tu with ⟨stop, qn⟩ | ⟨go, hz, step⟩
    · have D := T.done X' eP ew eK ec i [] s5 σ5 H5 (fun _ _ => False) I5 (stat fr5) st5 stop
      rw [eA] at D
      refine thn D fun r s6 ⟨hr, I6⟩ => ?_
      subst hr
      refine ⟨rfl, ?_, .ref p, H5, rfl, ?_, ?_, qn⟩
      · obtain ⟨m, hm, _⟩ := I6.loc
        rw [eE] at hm
        exact ⟨m, hm⟩
      · have b6 := I6.base
        have ho := I6.os
        have hk := I6.hok
        have hb := I6.bare
        subst hX
        exact I3.call' (ch := fp) ho b6 hk hb fun b hb' => ⟨(hf b hb').2.2.2.1, (hf b hb').2.1, (hf b hb').2.2.2.2.1, (hf b hb').2.2.2.2.2⟩
      · have fr := I6.free
        rw [eE] at fr
        exact I3.fpOk (Nat.le_refl _) fr
    · have D := T.item X' eP ew eK ec i [] s5 σ5 H5 (fun _ _ => False) I5 (stat fr5) st5 go
      rw [eA] at D
      refine thn D fun r s6 ⟨u, hr, h6⟩ => ?_
      subst hr
      refine thn h6 fun _ s7 ⟨x, H7, I7, r7, y7, st7, fr7⟩ => ?_
      have I7' := I7.pinned (stat fr7) (T.obj _ _ st7)
      have G := hg' _ s7 σ5 H7 x u _ I7' r7 (step x H7 y7)
      rw [eP, ew, eA, ex, eE] at G
      refine thn G fun _ s8 ⟨σ8, H8, I8, q8⟩ => ?_
      have Tt := ht' _ s8 σ8 H8 _ I8 q8
      rw [eP, ew, eA, ex, eE] at Tt
      refine thn Tt fun b s9 ⟨H9, I9, q9⟩ => ?_
      have again : ∀ {s' : Shared} {ys' : List (Key × V)} {H' : Hp}, Inv X' ([] ++ pinsAt fp s7.heap) σ8 H' s' → (∃ m', m' < n ∧ W (i + 1) m' σ8 ys' H') →
          ∃ m, m < n ∧ ∃ i σ' ys H', Inv X' [] σ' H' s' ∧ tn i s'.heap ∧ (∀ b ∈ fp, H' b = none) ∧ W i m σ' ys H' := fun {s' ys' H'} I' ⟨m', hm, w'⟩ => by
        refine ⟨m', hm, i + 1, σ8, ys', H', I'.unpinned, T.keep _ _ _ st7 fun b hb o e => (I'.pin (b, o) (List.mem_append_right _ (List.mem_append_right _ (mem_pinsAt hb e)))).1, fun b hb => ?_, w'⟩
        obtain ⟨o, e, d⟩ := T.obj _ _ st7 b hb
        exact (I'.pin (b, o) (List.mem_append_right _ (List.mem_append_right _ (mem_pinsAt hb e)))).2.1
      cases b with
      | false => exact again I9 q9
      | true =>
        have Ee := he' _ s9 σ8 H9 _ I9 q9
        rw [eP, ew, eA, ex, eE] at Ee
        show wpAny _ _ _ _ _ _
        refine thn Ee fun kv s10 ⟨kk, H10, I10, r10, q10⟩ => ?_
        have Ev := hv' _ s10 σ8 H10 _ I10 q10
        rw [eP, ew, eA, ex, eE] at Ev
        refine thn Ev fun vv s11 ⟨y, H11, I11, r11, ky, ek, hp11, q11⟩ => ?_
        subst ek
        obtain ⟨z0, hd0, vs0, rel0, dd0⟩ := dk_of I11.hok hp11
        have hz0 : vs0.length ≤ sizeLine := by rw [← rel0.length]; exact z0
        have hl0 : (putK ys ky y).length ≤ sizeLine := by have := length_putK ys ky y; omega
        rw [eP, ew] at dd0
        refine wpAny_dictSet_pairs (hsz := hz0) (kV_is r10) dd0 fun h' dd' hs' => ?_
        have he0 : ∃ q, h'.get? p = some q := let ⟨q, _, _, hq, _⟩ := dd'; ⟨q, hq⟩
        have I12 := d_write (t' := s11.toks + 1) I11 (by rw [hp11]; exact True.intro) hs' he0 (dk_new hl0 hd0 (rel0.put ky r11) (by rw [eP, ew]; exact dd'))
        exact again I12 q11
  exact codeAny_compStart_dict (loop _ rfl) (T.self _ 0 _ _ _ st4 (loop _ rfl))
end
end L2

set_option Elab.async false
set_option linter.all false
set_option maxRecDepth 100000
set_option exponentiation.threshold 2000
/-! zip of two tuples, walked by a target of names -/
namespace L2
open PySem PySem.Spec PyProof.Rows
section
variable {prog : Program} {w : World} {A : Around} {E : Value → Shared → Prop} {s : Shared}
/-- the tuple's iterator, asked by a built-in: an item -/
theorem nx_item {ti tp : Addr} {k : Nat} {vs : Array Value} {v : Value} {Q : Value → Shared → Prop} (hi : s.heap.IsTupleIter ti tp k) (ht : s.heap.IsTuple tp vs) (hv : vs[k]? = some v)
    (fin : ∀ g, g.IsTupleIter ti tp (k + 1) → Heap.SameBut ti s.heap g → Q v { s with heap := g }) : wpAny (model prog w) A (Builtin.SmallTypes.nextOf (.ref ti)) Q E s := by
  obtain ⟨oi, e1, c1, d1⟩ := id hi
  obtain ⟨ot, e2, _, nt, d2⟩ := ht
  unfold Builtin.SmallTypes.nextOf
  refine wpAny_bind (wpAny_callSpecial?_slot (name := Str.ofString "__next__") hi.typeIs PySem.F.slot_tuple_iterator_next (wpAny_call_entry PySem.F.slot_tuple_iterator_next hi.typeIs PySem.F.entry_tuple_iterator_next ?_ (PySem.F.args_tuple_iterator_next_1 _)))
  show wpAny _ _ (field (.ref ti) 0 >>= _) _ _ s
  refine wpAny_bind (wpAny_field e1 d1 (x := .ref tp) rfl ?_)
  show wpAny _ _ (if (Value.ref tp == Value.none) = true then _ else _) _ _ s
  rw [if_neg (show ¬ ((Value.ref tp == Value.none) = true) from Bool.false_ne_true)]
  show wpAny _ _ (field (.ref ti) 1 >>= _) _ _ s
  refine wpAny_bind (wpAny_field e1 d1 (x := .int k 0) rfl ?_)
  show wpAny _ _ (seqItems? (.ref tp) >>= _) _ _ s
  refine wpAny_bind (wpAny_seqItems e2 d2 ?_)
  simp only [Int.toNat_natCast, hv]
  refine wpAny_bind (wpAny_setField e1 d1 (by simp) (wpAny_pure ⟨v, rfl, wpAny_pure (fin _ ?_ (Heap.SameBut.update ..))⟩))
  exact ⟨_, Heap.get?_update_self _ e1 (Obj.isFreed_of_fields (Obj.data_mapFields d1 _)), (Obj.cls_mapFields ..).trans c1, by rw [Obj.data_mapFields d1]; simp [rawInt]⟩
/-- .. its end -/
theorem nx_end {ti tp : Addr} {k : Nat} {vs : Array Value} {Q : Value → Shared → Prop} (hh : A.handled = none) (hi : s.heap.IsTupleIter ti tp k) (ht : s.heap.IsTuple tp vs) (hv : vs[k]? = none)
    (fin : ∀ g e, Heap.ExtBut ti s.heap g → (∃ o, g.get? e = some o ∧ o.cls = .type "StopIteration") → E (.ref e) { s with heap := g }) : wpAny (model prog w) A (Builtin.SmallTypes.nextOf (.ref ti)) Q E s := by
  obtain ⟨oi, e1, c1, d1⟩ := id hi
  obtain ⟨ot, e2, _, nt, d2⟩ := ht
  unfold Builtin.SmallTypes.nextOf
  refine wpAny_bind (wpAny_callSpecial?_slot (name := Str.ofString "__next__") hi.typeIs PySem.F.slot_tuple_iterator_next (wpAny_call_entry PySem.F.slot_tuple_iterator_next hi.typeIs PySem.F.entry_tuple_iterator_next ?_ (PySem.F.args_tuple_iterator_next_1 _)))
  show wpAny _ _ (field (.ref ti) 0 >>= _) _ _ s
  refine wpAny_bind (wpAny_field e1 d1 (x := .ref tp) rfl ?_)
  show wpAny _ _ (if (Value.ref tp == Value.none) = true then _ else _) _ _ s
  rw [if_neg (show ¬ ((Value.ref tp == Value.none) = true) from Bool.false_ne_true)]
  show wpAny _ _ (field (.ref ti) 1 >>= _) _ _ s
  refine wpAny_bind (wpAny_field e1 d1 (x := .int k 0) rfl ?_)
  show wpAny _ _ (seqItems? (.ref tp) >>= _) _ _ s
  refine wpAny_bind (wpAny_seqItems e2 d2 ?_)
  simp only [Int.toNat_natCast, hv]
  refine wpAny_bind (wpAny_rule (wpAny_bind (wpAny_setField e1 d1 (by simp) ?_)))
  show wpAny _ _ (newExc (.type "StopIteration") [] >>= _) _ _ _
  refine wpAny_bind ?_
  simp only [newExc, newTuple]
  refine wpAny_bind (wpAny_newObj_type ?_ (by size_fits))
  refine wpAny_bind (m := firstArgMember _ _) (wpAny_of_eq (a := Value.none) (by first | rfl | (simp only [firstArgMember]; rfl)) ?_)
  refine wpAny_newObj_type ?_ (by size_fits)
  simp only [raiseNew]
  refine wpAny_bind (wpAny_handled ?_)
  first | rw [show A.in1.handled = none from hh] | rw [hh]
  refine wpAny_bind (wpAny_pure (wpAny_throw ?_))
  exact fin _ _ (((Heap.SameBut.update ..).extBut.push _).push _) ⟨_, Heap.get?_push_size _ rfl, rfl⟩
/-- the zip's own objects lie apart -/
structure ZA (z a b i j : Addr) : Prop where
  az : a ≠ z
  bz : b ≠ z
  iz : i ≠ z
  jz : j ≠ z
  ab : a ≠ b
  ai : a ≠ i
  aj : a ≠ j
  bi : b ≠ i
  bj : b ≠ j
  ij : i ≠ j
theorem tup_off {h h' : Heap} {t c : Addr} {vs : Array Value} (x : h.IsTuple t vs) (hs : Heap.SameBut c h h') (n : t ≠ c) : h'.IsTuple t vs := x.extBut hs.extBut n
theorem zt_item {z a b i j t1 t2 : Addr} {k1 k2 : Nat} {xs ys : Array Value} {x y p q : Value} {Q : Value → Shared → Prop} (D : ZA z a b i j) (n1 : t1 ≠ z ∧ t1 ≠ b ∧ t1 ≠ i ∧ t1 ≠ j) (n2 : t2 ≠ z ∧ t2 ≠ b ∧ t2 ≠ i ∧ t2 ≠ j)
    (hz : IsZip s.heap z a b .none) (ha : IsPair s.heap a (.ref i) (.ref j)) (hb : IsPair s.heap b p q) (h1 : s.heap.IsTupleIter i t1 k1) (h2 : s.heap.IsTupleIter j t2 k2) (g1 : s.heap.IsTuple t1 xs) (g2 : s.heap.IsTuple t2 ys) (hx : xs[k1]? = some x) (hy : ys[k2]? = some y)
    (fin : ∀ g, IsZip g z a b (rawInt s.heap.objs.size) → IsPair g b x y → g.IsTupleIter i t1 (k1 + 1) → g.IsTupleIter j t2 (k2 + 1) → IsPair g s.heap.objs.size x y →
      (∀ c o, c ≠ z → c ≠ b → c ≠ i → c ≠ j → s.heap.get? c = some o → g.get? c = some o) → Q (.ref s.heap.objs.size) { s with heap := g }) :
    wpAny (model prog w) A (Builtin.«zip.__next__» ⟨[.ref z], []⟩) (fun r s' => ∃ v, r = .done (.ret v) ∧ Q v s') E s := by
  show wpAny _ _ (field (.ref z) 2 >>= _) _ _ _
  refine wpAny_bind (wpAny_field hz rfl (x := .bool false) rfl ?_)
  show wpAny _ _ (field (.ref z) 3 >>= _) _ _ _
  refine wpAny_bind (wpAny_field hz rfl (x := .ref a) rfl ?_)
  refine wpAny_bind (wpAny_seqItems ha rfl ?_)
  show wpAny _ _ (Builtin.SmallTypes.ownedTupleIsFree (.ref z) >>= _) _ _ _
  refine wpAny_bind ?_
  unfold Builtin.SmallTypes.ownedTupleIsFree
  refine wpAny_bind (wpAny_field hz rfl (x := .none) rfl (wpAny_pure ?_))
  simp only [if_true]
  refine wpAny_bind (wpAny_rule ?_)
  refine wpAny_bind (wpAny_field hz rfl (x := .ref b) rfl ?_)
  refine wpAny_bind (wpAny_setField_rec hz (by simp) fun w1 z1 m1 => ?_)
  replace z1 : IsZip w1 z a b .ellipsis := z1
  refine wpAny_bind ?_
  simp only [List.zipIdx_cons, List.zipIdx_nil, List.forIn_cons, List.forIn_nil]
  refine wpAny_bind (wpAny_bind (wpAny_onRaise ?_))
  show wpAny _ _ (Builtin.SmallTypes.nextOf (.ref i) >>= _) _ _ _
  refine wpAny_bind (nx_item (h1.extBut m1.extBut D.iz) (tup_off g1 m1 n1.1) hx fun w2 i2 m2 => wpAny_pure ?_)
  have b2 : IsPair w2 b p q := m2.extBut _ _ D.bi (m1.extBut _ _ D.bz hb)
  refine wpAny_bind (wpAny_seqItems b2 rfl ?_)
  refine wpAny_bind (wpAny_updateSeq_pair b2 fun w3 b3 m3 => ?_)
  replace b3 : IsPair w3 b x q := b3
  refine wpAny_bind (wpAny_letGo (wpAny_pure ?_))
  refine wpAny_bind (wpAny_bind (wpAny_onRaise ?_))
  show wpAny _ _ (Builtin.SmallTypes.nextOf (.ref j) >>= _) _ _ _
  refine wpAny_bind (nx_item (((h2.extBut m1.extBut D.jz).extBut m2.extBut D.ij.symm).extBut m3.extBut D.bj.symm) (tup_off (tup_off (tup_off g2 m1 n2.1) m2 n2.2.2.1) m3 n2.2.1) hy fun w4 j4 m4 => wpAny_pure ?_)
  have b4 : IsPair w4 b x q := m4.extBut _ _ D.bj b3
  refine wpAny_bind (wpAny_seqItems b4 rfl ?_)
  refine wpAny_bind (wpAny_updateSeq_pair b4 fun w5 b5 m5 => ?_)
  replace b5 : IsPair w5 b x y := b5
  refine wpAny_bind (wpAny_letGo (wpAny_pure (wpAny_pure ?_)))
  refine wpAny_bind (wpAny_seqItems b5 rfl ?_)
  refine wpAny_bind (wpAny_newTuple ?_)
  have sz : w5.objs.size = s.heap.objs.size := by rw [m5.1, m4.1, m3.1, m2.1, m1.1]
  have z5 : IsZip w5 z a b .ellipsis := m5.extBut _ _ D.bz.symm (m4.extBut _ _ D.jz.symm (m3.extBut _ _ D.bz.symm (m2.extBut _ _ D.iz.symm z1)))
  have k5 : ∀ c o, c ≠ z → c ≠ b → c ≠ i → c ≠ j → s.heap.get? c = some o → w5.get? c = some o := fun c o c1 c2 c3 c4 e =>
    m5.extBut _ _ c2 (m4.extBut _ _ c4 (m3.extBut _ _ c2 (m2.extBut _ _ c3 (m1.extBut _ _ c1 e))))
  have i5 : w5.IsTupleIter i t1 (k1 + 1) := ((i2.extBut m3.extBut D.bi.symm).extBut m4.extBut D.ij).extBut m5.extBut D.bi.symm
  have j5 : w5.IsTupleIter j t2 (k2 + 1) := j4.extBut m5.extBut D.bj.symm
  have zlt : z < w5.objs.size := Heap.lt_size z5
  show wpAny _ _ (Builtin.SmallTypes.ownedTupleHandOut (.ref z) (.ref w5.objs.size) >>= _) _ _ _
  refine wpAny_bind ?_
  unfold Builtin.SmallTypes.ownedTupleHandOut
  have z6 : IsZip (w5.push { cls := .type "tuple", data := .seq #[x, y] }) z a b .ellipsis := Heap.get?_push_of_some _ z5
  refine wpAny_bind (wpAny_setField_rec z6 (by simp) fun w7 z7 m7 => ?_)
  replace z7 : IsZip w7 z a b (rawInt w5.objs.size) := z7
  refine wpAny_setField_rec z7 (by simp) fun w8 z8 m8 => ?_
  replace z8 : IsZip w8 z a b (rawInt w5.objs.size) := z8
  have up : ∀ c o, c ≠ z → w5.get? c = some o → w8.get? c = some o := fun c o c1 e => m8.extBut _ _ c1 (m7.extBut _ _ c1 (Heap.get?_push_of_some _ e))
  have t8 : IsPair w8 w5.objs.size x y := m8.extBut _ _ (Nat.ne_of_gt zlt) (m7.extBut _ _ (Nat.ne_of_gt zlt) (Heap.get?_push_size _ rfl))
  rw [sz] at z8 t8
  refine wpAny_pure ⟨_, rfl, ?_⟩
  show Q (.ref w5.objs.size) _
  rw [sz]
  obtain ⟨oi, ei, ri⟩ := i5
  obtain ⟨oj, ej, rj⟩ := j5
  exact fin w8 z8 (up _ _ D.bz b5) ⟨oi, up _ oi D.iz ei, ri⟩ ⟨oj, up _ oj D.jz ej, rj⟩ t8 fun c o c1 c2 c3 c4 e => up c o c1 (k5 c o c1 c2 c3 c4 e)
theorem zt_end {z a b i j t1 t2 : Addr} {k1 k2 : Nat} {xs ys : Array Value} {p q : Value} {Q : Fin → Shared → Prop} (hh : A.handled = none) (D : ZA z a b i j) (n1 : t1 ≠ z ∧ t1 ≠ b ∧ t1 ≠ i ∧ t1 ≠ j) (n2 : t2 ≠ z ∧ t2 ≠ b ∧ t2 ≠ i ∧ t2 ≠ j)
    (hz : IsZip s.heap z a b .none) (ha : IsPair s.heap a (.ref i) (.ref j)) (hb : IsPair s.heap b p q) (h1 : s.heap.IsTupleIter i t1 k1) (h2 : s.heap.IsTupleIter j t2 k2) (g1 : s.heap.IsTuple t1 xs) (g2 : s.heap.IsTuple t2 ys) (hend : xs[k1]? = none ∨ ys[k2]? = none)
    (fin : ∀ g e, (∀ c o, c ≠ z → c ≠ b → c ≠ i → c ≠ j → s.heap.get? c = some o → g.get? c = some o) → (∃ o, g.get? e = some o ∧ o.cls = .type "StopIteration") → E (.ref e) { s with heap := g }) :
    wpAny (model prog w) A (Builtin.«zip.__next__» ⟨[.ref z], []⟩) Q E s := by
  show wpAny _ _ (field (.ref z) 2 >>= _) _ _ _
  refine wpAny_bind (wpAny_field hz rfl (x := .bool false) rfl ?_)
  show wpAny _ _ (field (.ref z) 3 >>= _) _ _ _
  refine wpAny_bind (wpAny_field hz rfl (x := .ref a) rfl ?_)
  refine wpAny_bind (wpAny_seqItems ha rfl ?_)
  show wpAny _ _ (Builtin.SmallTypes.ownedTupleIsFree (.ref z) >>= _) _ _ _
  refine wpAny_bind ?_
  unfold Builtin.SmallTypes.ownedTupleIsFree
  refine wpAny_bind (wpAny_field hz rfl (x := .none) rfl (wpAny_pure ?_))
  simp only [if_true]
  refine wpAny_bind (wpAny_rule ?_)
  refine wpAny_bind (wpAny_field hz rfl (x := .ref b) rfl ?_)
  refine wpAny_bind (wpAny_setField_rec hz (by simp) fun w1 z1 m1 => ?_)
  replace z1 : IsZip w1 z a b .ellipsis := z1
  refine wpAny_bind ?_
  simp only [List.zipIdx_cons, List.zipIdx_nil, List.forIn_cons, List.forIn_nil]
  refine wpAny_bind (wpAny_bind (wpAny_onRaise ?_))
  show wpAny _ _ (Builtin.SmallTypes.nextOf (.ref i) >>= _) _ _ _
  cases hx : xs[k1]? with
  | none =>
    refine wpAny_bind (nx_end hh (h1.extBut m1.extBut D.iz) (tup_off g1 m1 n1.1) hx fun w2 e m2 he => ?_)
    obtain ⟨oe, e1, e2⟩ := he
    have z2 : IsZip w2 z a b .ellipsis := m2 _ _ D.iz.symm z1
    have ez : e ≠ z := fun u => by subst u; rw [z2] at e1; cases e1; simp at e2
    exact wpAny_setField_rec z2 (by simp) fun w3 _ m3 => fin w3 e (fun c o c1 _ c3 _ u => m3.extBut _ _ c1 (m2 _ _ c3 (m1.extBut _ _ c1 u))) ⟨oe, m3.extBut _ _ ez e1, e2⟩
  | some x =>
    have hy : ys[k2]? = none := by
      rcases hend with u | u
      · rw [hx] at u; cases u
      · exact u
    refine wpAny_bind (nx_item (h1.extBut m1.extBut D.iz) (tup_off g1 m1 n1.1) hx fun w2 i2 m2 => wpAny_pure ?_)
    have b2 : IsPair w2 b p q := m2.extBut _ _ D.bi (m1.extBut _ _ D.bz hb)
    refine wpAny_bind (wpAny_seqItems b2 rfl ?_)
    refine wpAny_bind (wpAny_updateSeq_pair b2 fun w3 b3 m3 => ?_)
    refine wpAny_bind (wpAny_letGo (wpAny_pure ?_))
    refine wpAny_bind (wpAny_bind (wpAny_onRaise ?_))
    show wpAny _ _ (Builtin.SmallTypes.nextOf (.ref j) >>= _) _ _ _
    refine wpAny_bind (nx_end hh (((h2.extBut m1.extBut D.jz).extBut m2.extBut D.ij.symm).extBut m3.extBut D.bj.symm) (tup_off (tup_off (tup_off g2 m1 n2.1) m2 n2.2.2.1) m3 n2.2.1) hy fun w4 e m4 he => ?_)
    obtain ⟨oe, e1, e2⟩ := he
    have z4 : IsZip w4 z a b .ellipsis := m4 _ _ D.jz.symm (m3.extBut _ _ D.bz.symm (m2.extBut _ _ D.iz.symm z1))
    have ez : e ≠ z := fun u => by subst u; rw [z4] at e1; cases e1; simp at e2
    exact wpAny_setField_rec z4 (by simp) fun w5 _ m5 => fin w5 e (fun c o c1 c2 c3 c4 u => m5.extBut _ _ c1 (m4 _ _ c4 (m3.extBut _ _ c2 (m2.extBut _ _ c3 (m1.extBut _ _ c1 u))))) ⟨oe, m5.extBut _ _ ez e1, e2⟩
end
end L2

set_option Elab.async false
set_option linter.all false
set_option maxRecDepth 100000
set_option exponentiation.threshold 2000
namespace L2
open PySem PySem.Spec PyProof.Rows
section
variable {X : Cx} {pins : List (Addr × Obj)} {σ : St} {H : Hp} {s : Shared} {h' : Heap}
/-- some records of ours have turned, and a new tuple stands -/
theorem Inv.newTup {T : Addr} {x y : V} {t' : Nat} (I : Inv X pins σ H s) (ch : List Addr) (hch : ∀ c ∈ ch, FpOk X pins H c) (keep : ∀ c o, c ∉ ch → s.heap.get? c = some o → h'.get? c = some o) (hT : s.heap.objs.size ≤ T)
    (tup : ∃ its : List Value, Vals [x, y] its ∧ IsTupP h' T its.toArray) : Inv X pins σ (upd H T (.tup [x, y])) { s with heap := h', toks := t' } := by
  have hn : H T = none := I.hok.fresh hT
  have neT : ∀ c o, s.heap.get? c = some o → c ≠ T := fun c o e => Nat.ne_of_lt (Nat.lt_of_lt_of_le (Heap.lt_size e) hT)
  have off : ∀ c u, H c = some u → c ∉ ch := fun c u e z => by rw [(hch c z).1] at e; cases e
  refine I.step (g' := s.gens) (d' := s.drawn) (ch := ch) (fun c hc => ⟨(hch c hc).2.2.2.1, (hch c hc).2.1, (hch c hc).2.2.2.2.1, (hch c hc).2.2.2.2.2⟩) (fun c o _ _ hc e _ => keep c o hc e) (fun c o _ _ hc e _ => ⟨o.slots, keep c o hc e⟩)
    (fun c o _ e n => by rw [upd_ne (neT c o e)]; exact n) (fun c o hc e => ⟨o, keep c o hc e⟩) (fun c xs e => by rw [upd_ne (ne_of_none e hn)]; exact e) (fun c o u e => by rw [upd_ne (ne_of_none e hn)]; exact e)
    (fun c ps e => ⟨#[], by rw [upd_ne (ne_of_none e hn), e]; simp⟩) (fun m hm => ?_) (fun c u e => ?_) I.bare
  · obtain ⟨o, es, ep, ho, r⟩ := hm
    exact ⟨o, es, ep, keep _ o (fun z => (hch _ z).2.1 rfl) ho, r⟩
  · by_cases hc : c = T
    · subst hc
      rw [upd_same] at e
      cases e
      obtain ⟨its, r, p⟩ := tup
      exact ⟨by show 2 ≤ sizeLine; decide, its, r, p⟩
    · rw [upd_ne hc] at e
      refine (I.hok c u e).stay (fun d v hd q => keep d v ?_ q) (fun d q => by rw [upd_ne (ne_of_none q hn)]; exact q) fun d xs q => by rw [upd_ne (ne_of_none q hn)]; exact q
      rcases hd with z | z
      · rw [z]; exact off c u e
      · exact off d _ z
/-- some records of ours have turned -/
theorem Inv.turnedN {t' : Nat} (I : Inv X pins σ H s) (ch : List Addr) (hch : ∀ c ∈ ch, FpOk X pins H c) (keep : ∀ c o, c ∉ ch → s.heap.get? c = some o → h'.get? c = some o) : Inv X pins σ H { s with heap := h', toks := t' } := by
  have off : ∀ c u, H c = some u → c ∉ ch := fun c u e z => by rw [(hch c z).1] at e; cases e
  refine I.step (g' := s.gens) (d' := s.drawn) (ch := ch) (fun c hc => ⟨(hch c hc).2.2.2.1, (hch c hc).2.1, (hch c hc).2.2.2.2.1, (hch c hc).2.2.2.2.2⟩) (fun c o _ _ hc e _ => keep c o hc e) (fun c o _ _ hc e _ => ⟨o.slots, keep c o hc e⟩)
    (fun c o _ e n => n) (fun c o hc e => ⟨o, keep c o hc e⟩) (fun c xs e => e) (fun c o u e => e) (fun c ps e => ⟨#[], by rw [e]; simp⟩) (fun m hm => ?_) (fun c u e => ?_) I.bare
  · obtain ⟨o, es, ep, ho, r⟩ := hm
    exact ⟨o, es, ep, keep _ o (fun z => (hch _ z).2.1 rfl) ho, r⟩
  · refine (I.hok c u e).stay (fun d v hd q => keep d v ?_ q) (fun _ q => q) fun _ _ q => q
    rcases hd with z | z
    · rw [z]; exact off c u e
    · exact off d _ z
theorem sqT_ne {t c : Addr} {xs : List V} (I : Inv X pins σ H s) (h : SqT X.K H t xs) (f : FpOk X pins H c) : t ≠ c := by
  intro e
  subst e
  rcases h with (h | ⟨o, h⟩) | ⟨o, its, n, hk, _⟩
  · rw [f.1] at h; cases h
  · rw [f.1] at h; cases h
  · have eb := I.ok.mod.kin t o hk
    rcases f.2.2.2.1 with z | z
    · exact I.ok.noex t o eb z
    · exact absurd (Nat.lt_of_lt_of_le (Heap.lt_size eb) (Nat.le_trans I.ok.bsz z)) (Nat.lt_irrefl _)
end
/-- two tuples side by side -/
def Itz (K : PySem.W.Frag) (t1 t2 : Addr) : It :=
  ⟨fun k H => ∃ (xs ys : List V) (x y : V), SqT K H t1 xs ∧ SqT K H t2 ys ∧ xs[k]? = some x ∧ ys[k]? = some y,
   fun k H v H' => ∃ p, v = .ref p ∧ H p = none ∧ ∀ (xs ys : List V) (x y : V), SqT K H t1 xs → SqT K H t2 ys → xs[k]? = some x → ys[k]? = some y → H' = upd H p (.tup [x, y]),
   fun k H => ∃ (xs ys : List V), SqT K H t1 xs ∧ SqT K H t2 ys ∧ (xs.length ≤ k ∨ ys.length ≤ k)⟩
theorem turn_zip {P : Program} {w : World} {K : PySem.W.Frag} {es : List Expr} {kk : Nat} {pos : Pos} (t1 t2 z a b i j : Addr) (D : ZA z a b i j) :
    Turn P w K (.Tuple es kk pos) (Itz K t1 t2) [z, a, b, i, j] z (fun k h => IsZip h z a b .none ∧ IsPair h a (.ref i) (.ref j) ∧ (∃ p q, IsPair h b p q) ∧ h.IsTupleIter i t1 k ∧ h.IsTupleIter j t2 k) where
  mem := by simp
  obj := fun k h st c hc => by
    obtain ⟨hz, ha, ⟨p, q, hb⟩, ⟨oi, ei, _, di⟩, ⟨oj, ej, _, dj⟩⟩ := st
    simp only [List.mem_cons, List.not_mem_nil, or_false] at hc
    rcases hc with rfl | rfl | rfl | rfl | rfl
    · exact ⟨_, hz, fun v e => by cases e⟩
    · exact ⟨_, ha, fun v e => by cases e⟩
    · exact ⟨_, hb, fun v e => by cases e⟩
    · exact ⟨oi, ei, fun v e => by rw [di] at e; cases e⟩
    · exact ⟨oj, ej, fun v e => by rw [dj] at e; cases e⟩
  keep := fun k h h' st kp => by
    obtain ⟨hz, ha, ⟨p, q, hb⟩, ⟨oi, ei, ri⟩, ⟨oj, ej, rj⟩⟩ := st
    exact ⟨kp z (by simp) _ hz, kp a (by simp) _ ha, ⟨p, q, kp b (by simp) _ hb⟩, ⟨oi, kp i (by simp) _ ei, ri⟩, ⟨oj, kp j (by simp) _ ej, rj⟩⟩
  item := by
    intro X hP hw hK hc k pins s σ H E I hf st hg
    subst hP hw hK
    obtain ⟨xs, ys, x, y, q1, q2, hx, hy⟩ := hg
    obtain ⟨hz, ha, ⟨p, q, hb⟩, h1, h2⟩ := st
    obtain ⟨its1, r1, g1, _⟩ := I.tuple q1
    obtain ⟨its2, r2, g2, _⟩ := I.tuple q2
    obtain ⟨u1, hu1, v1⟩ := r1.get hx
    obtain ⟨u2, hu2, v2⟩ := r2.get hy
    have fz := hf z (by simp)
    have fb := hf b (by simp)
    have fi := hf i (by simp)
    have fj := hf j (by simp)
    have hT : s.TypeIs (.ref z) "zip" := ⟨_, hz, rfl⟩
    unfold pyNext
    refine wpAny_bind (wpAny_attempt (wpAny_callSpecial?_slot (name := Str.ofString "__next__") hT PySem.F.slot_zip_next (wpAny_call_entry PySem.F.slot_zip_next hT PySem.F.entry_zip_next
      (zt_item D ⟨sqT_ne I q1 fz, sqT_ne I q1 fb, sqT_ne I q1 fi, sqT_ne I q1 fj⟩ ⟨sqT_ne I q2 fz, sqT_ne I q2 fb, sqT_ne I q2 fi, sqT_ne I q2 fj⟩ hz ha hb h1 h2 g1 g2 (by simpa using hu1) (by simpa using hu2) fun g a1 a2 a3 a4 a5 a6 => wpAny_pure ?_) (PySem.F.args_zip_next_1 _))))
    refine ⟨_, rfl, wpAny_letOwnedTupleGo_zip a1 fun g' z' m' => ?_⟩
    have zT : z ≠ s.heap.objs.size := Nat.ne_of_lt (Heap.lt_size hz)
    have up : ∀ c o, c ≠ z → g.get? c = some o → g'.get? c = some o := fun c o hc e => m'.extBut c o hc e
    have fr : H s.heap.objs.size = none := I.hok.fresh (Nat.le_refl _)
    have I1 : Inv X pins σ (upd H s.heap.objs.size (.tup [x, y])) { s with heap := g' } := by
      refine I.newTup (t' := s.toks) [z, b, i, j] (fun c hc => ?_) (fun c o hc e => ?_) (Nat.le_refl _) ⟨[u1, u2], .cons v1 (.cons v2 .nil), _, up _ _ zT.symm a5, rfl, rfl, _, rfl⟩
      · simp only [List.mem_cons, List.not_mem_nil, or_false] at hc
        rcases hc with rfl | rfl | rfl | rfl
        · exact fz
        · exact fb
        · exact fi
        · exact fj
      · simp only [List.mem_cons, List.not_mem_nil, or_false, not_or] at hc
        exact up c o hc.1 (a6 c o hc.1 hc.2.1 hc.2.2.1 hc.2.2.2 e)
    obtain ⟨oi, ei, ri⟩ := a3
    obtain ⟨oj, ej, rj⟩ := a4
    refine ⟨.ref s.heap.objs.size, _, I1, rfl, ⟨_, rfl, fr, fun xs' ys' x' y' s1 s2 e1 e2 => ?_⟩, ⟨z', up _ _ D.az (a6 a _ D.az D.ab D.ai D.aj ha), ⟨_, _, up _ _ D.bz a2⟩, ⟨oi, up _ _ D.iz ei, ri⟩, ⟨oj, up _ _ D.jz ej, rj⟩⟩, fun c hc => ?_⟩
    · rw [I.tuple_inj s1 q1, hx] at e1
      rw [I.tuple_inj s2 q2, hy] at e2
      cases e1
      cases e2
      rfl
    · have fc := hf c hc
      have : c ≠ s.heap.objs.size := by
        simp only [List.mem_cons, List.not_mem_nil, or_false] at hc
        obtain ⟨oi', ei', _⟩ := h1
        obtain ⟨oj', ej', _⟩ := h2
        rcases hc with rfl | rfl | rfl | rfl | rfl
        · exact zT
        · exact Nat.ne_of_lt (Heap.lt_size ha)
        · exact Nat.ne_of_lt (Heap.lt_size hb)
        · exact Nat.ne_of_lt (Heap.lt_size ei')
        · exact Nat.ne_of_lt (Heap.lt_size ej')
      rw [upd_ne this]
      exact fc.1
  done := by
    intro X hP hw hK hc k pins s σ H E I hf st hg
    subst hP hw hK
    obtain ⟨xs, ys, q1, q2, hend⟩ := hg
    obtain ⟨hz, ha, ⟨p, q, hb⟩, h1, h2⟩ := st
    obtain ⟨its1, r1, g1, _⟩ := I.tuple q1
    obtain ⟨its2, r2, g2, _⟩ := I.tuple q2
    have l1 := r1.length
    have l2 := r2.length
    have fz := hf z (by simp)
    have fb := hf b (by simp)
    have fi := hf i (by simp)
    have fj := hf j (by simp)
    have hT : s.TypeIs (.ref z) "zip" := ⟨_, hz, rfl⟩
    unfold pyNext
    refine wpAny_bind (wpAny_attempt (wpAny_callSpecial?_slot (name := Str.ofString "__next__") hT PySem.F.slot_zip_next (wpAny_call_entry PySem.F.slot_zip_next hT PySem.F.entry_zip_next
      (zt_end (I.ok.hd hc) D ⟨sqT_ne I q1 fz, sqT_ne I q1 fb, sqT_ne I q1 fi, sqT_ne I q1 fj⟩ ⟨sqT_ne I q2 fz, sqT_ne I q2 fb, sqT_ne I q2 fi, sqT_ne I q2 fj⟩ hz ha hb h1 h2 g1 g2 ?_ fun g e kp he => ?_) (PySem.F.args_zip_next_1 _))))
    · rcases hend with u | u
      · exact .inl (by simp; omega)
      · exact .inr (by simp; omega)
    · obtain ⟨o, ho, hcl⟩ := he
      refine wpAny_bind (wpAny_isInstance (T := "StopIteration") (b := true) ⟨o, ho, hcl⟩ isSubtype_stop ?_)
      refine wpAny_pure ⟨rfl, I.turnedN (t' := s.toks) [z, b, i, j] (fun c hc => ?_) (fun c o hc e => ?_)⟩
      · simp only [List.mem_cons, List.not_mem_nil, or_false] at hc
        rcases hc with rfl | rfl | rfl | rfl
        · exact fz
        · exact fb
        · exact fi
        · exact fj
      · simp only [List.mem_cons, List.not_mem_nil, or_false, not_or] at hc
        exact kp c o hc.1 hc.2.1 hc.2.2.1 hc.2.2.2 e
  self := fun _ _ _ _ _ st h => wpAny_pyIter_zip st.1 h
end L2

set_option Elab.async false
set_option linter.all false
set_option maxRecDepth 100000
set_option exponentiation.threshold 2000
namespace L2
open PySem PySem.Spec PyProof.Rows
abbrev zw1 (h : Heap) (t : Addr) : Heap := h.push { cls := .type "tuple_iterator", data := .fields #[.ref t, .int 0 0] }
abbrev zw2 (h : Heap) (t u : Addr) : Heap := (zw1 h t).push { cls := .type "tuple_iterator", data := .fields #[.ref u, .int 0 0] }
abbrev zw3 (h : Heap) (t u : Addr) : Heap := (zw2 h t u).push { cls := .type "tuple", data := .seq #[.ref h.objs.size, .ref (zw1 h t).objs.size] }
abbrev zw4 (h : Heap) (t u : Addr) : Heap := (zw3 h t u).push { cls := .type "tuple", data := .seq #[.none, .none] }
abbrev zw5 (h : Heap) (t u : Addr) : Heap := (zw4 h t u).push { cls := .type "zip", data := .fields #[.none, .bool false, .bool false, .ref (zw2 h t u).objs.size, .ref (zw3 h t u).objs.size] }
theorem zt_new (t u : Addr) (xs ys : Array Value) : Meets (Builtin.«zip.__new__» ⟨[.type "zip", .ref t, .ref u], []⟩) (fun _ R s => s.heap.IsTuple t xs ∧ s.heap.IsTuple u ys ∧
      R (.ok (.ret (.ref (zw4 s.heap t u).objs.size))) { s with heap := zw5 s.heap t u }) :=
  .of_wp fun prog w A R s h => by
    obtain ⟨hp, g, d, tk, os⟩ := s; obtain ⟨g1, g2, h⟩ := h
    have f0 := sub_zip
    have f1 : Heap.IsTuple (Shared.heap ⟨hp, g, d, tk, os⟩) t xs := g1
    have f2 : Heap.IsTuple (Shared.heap ⟨hp.push { cls := .type "tuple_iterator", data := .fields #[.ref t, .int 0 0] }, g, d, tk, os⟩) u ys := Heap.IsTuple.push g2 _
    wp_walk using wpAny_pyIter_tuple f1, wpAny_pyIter_tuple f2
    exact ⟨_, rfl, h⟩
theorem bt_zip : bootBuiltins "zip" = some (.type "zip") := by decide +kernel
section
variable {X : Cx}
def iZip (K : PySem.W.Frag) (ta : TA) : TI := fun σ H R => ta σ H fun vs H1 => ∃ t u, vs = [.ref t, .ref u] ∧ (∃ xs, SqT K H1 t xs) ∧ (∃ ys, SqT K H1 u ys) ∧ R (Itz K t u) H1
theorem pi_zip {es : List Expr} {kk : Nat} {tpos : Pos} {a b : Expr} {ta : TA} {p pos : Pos} (hg : Gl X "zip") (hm : X.mg "zip" = none) (ha : PA X [a, b] ta)
    (he : starEach [a, b] X.env = (false, eval a X.env) :: starEach [b] X.env := by rfl) (hpl : (backTo pos (starEach [b] X.env)).any (·.1) = false := by rfl) :
    PI X (.Tuple es kk tpos) (.Call (.Name "zip" p) [a, b] [] pos) (iZip X.K ta) := by
  intro pins s σ H R I h
  refine wpAny_Call_Name_kw (ld_blt I hg hm bt_zip ?_ (by decide) (by decide))
  refine PyProof.Rows.callWith_type1 (thn (ha pos pins s σ H _ I h) fun us s1 ⟨vs, H1, I1, r1, t, u, e, ⟨xs, q1⟩, ⟨ys, q2⟩, q⟩ => ?_) he hpl
  subst e
  obtain ⟨u1, u2, rfl, v1, v2⟩ := vals2 r1
  cases v1
  cases v2
  obtain ⟨its1, rv1, g1, _⟩ := I1.tuple q1
  obtain ⟨its2, rv2, g2, _⟩ := I1.tuple q2
  refine callType_new PySem.F.called_zip (by decide) (PySem.F.typeCall_zip_2 _ _) (PySem.F.newCall_zip_2 _ _) (fun obj => PySem.F.args_object_init_3 obj _ _) PySem.F.entry_zip_new (zt_new t u its1.toArray its2.toArray) ⟨g1, g2, ?_⟩
  have y1 : (zw1 s1.heap t).objs.size = s1.heap.objs.size + 1 := Heap.size_push ..
  have y2 : (zw2 s1.heap t u).objs.size = s1.heap.objs.size + 2 := by rw [Heap.size_push, y1]
  have y3 : (zw3 s1.heap t u).objs.size = s1.heap.objs.size + 3 := by rw [Heap.size_push, y2]
  have y4 : (zw4 s1.heap t u).objs.size = s1.heap.objs.size + 4 := by rw [Heap.size_push, y3]
  have k5 : ∀ c o, s1.heap.get? c = some o → (zw5 s1.heap t u).get? c = some o := fun c o e => Heap.get?_push_of_some _ (Heap.get?_push_of_some _ (Heap.get?_push_of_some _ (Heap.get?_push_of_some _ (Heap.get?_push_of_some _ e))))
  have e5 : (zw5 s1.heap t u).get? (zw4 s1.heap t u).objs.size = some _ := Heap.get?_push_size _ rfl
  have e4 : (zw5 s1.heap t u).get? (zw3 s1.heap t u).objs.size = some _ := Heap.get?_push_of_some _ (Heap.get?_push_size _ rfl)
  have e3 : (zw5 s1.heap t u).get? (zw2 s1.heap t u).objs.size = some _ := Heap.get?_push_of_some _ (Heap.get?_push_of_some _ (Heap.get?_push_size _ rfl))
  have e2 : (zw5 s1.heap t u).get? (zw1 s1.heap t).objs.size = some _ := Heap.get?_push_of_some _ (Heap.get?_push_of_some _ (Heap.get?_push_of_some _ (Heap.get?_push_size _ rfl)))
  have e1 : (zw5 s1.heap t u).get? s1.heap.objs.size = some _ := Heap.get?_push_of_some _ (Heap.get?_push_of_some _ (Heap.get?_push_of_some _ (Heap.get?_push_of_some _ (Heap.get?_push_size _ rfl))))
  have I2 : Inv X pins σ H1 { s1 with heap := zw5 s1.heap t u } := I1.kept (t' := s1.toks) k5
  have fp : ∀ c, s1.heap.objs.size ≤ c → FpOk X pins H1 c := fun c hc => I1.fpOk hc (I1.hok.fresh hc)
  have D : ZA (zw4 s1.heap t u).objs.size (zw2 s1.heap t u).objs.size (zw3 s1.heap t u).objs.size s1.heap.objs.size (zw1 s1.heap t).objs.size := by
    have n4 : (zw3 s1.heap t u).objs.size < (zw4 s1.heap t u).objs.size := by rw [y3, y4]; exact Nat.lt_succ_self _
    have n3 : (zw2 s1.heap t u).objs.size < (zw3 s1.heap t u).objs.size := by rw [y2, y3]; exact Nat.lt_succ_self _
    have n2 : (zw1 s1.heap t).objs.size < (zw2 s1.heap t u).objs.size := by rw [y1, y2]; exact Nat.lt_succ_self _
    have n1 : s1.heap.objs.size < (zw1 s1.heap t).objs.size := by rw [y1]; exact Nat.lt_succ_self _
    exact ⟨Nat.ne_of_lt (Nat.lt_trans n3 n4), Nat.ne_of_lt n4, Nat.ne_of_lt (Nat.lt_trans n1 (Nat.lt_trans n2 (Nat.lt_trans n3 n4))), Nat.ne_of_lt (Nat.lt_trans n2 (Nat.lt_trans n3 n4)), Nat.ne_of_lt n3, Nat.ne_of_gt (Nat.lt_trans n1 n2), Nat.ne_of_gt n2,
      Nat.ne_of_gt (Nat.lt_trans n1 (Nat.lt_trans n2 n3)), Nat.ne_of_gt (Nat.lt_trans n2 n3), Nat.ne_of_lt n1⟩
  refine ⟨⟨_, e5, rfl⟩, wpAny_pyIter_zip e5 ?_⟩
  refine ⟨_, _, _, _, H1, rfl, I2, turn_zip t u _ _ _ _ _ D, ⟨e5, e3, ⟨_, _, e4⟩, ⟨_, e1, rfl, rfl⟩, ⟨_, e2, rfl, rfl⟩⟩, fun c hc => fp c ?_, q⟩
  simp only [List.mem_cons, List.not_mem_nil, or_false] at hc
  rcases hc with rfl | rfl | rfl | rfl | rfl
  · rw [y4]; exact Nat.le_add_right _ _
  · rw [y2]; exact Nat.le_add_right _ _
  · rw [y3]; exact Nat.le_add_right _ _
  · exact Nat.le_refl _
  · rw [y1]; exact Nat.le_add_right _ _
end
end L2

set_option Elab.async false
set_option linter.all false
set_option maxRecDepth 100000
set_option exponentiation.threshold 2000
namespace L2
open PySem PySem.Spec PyProof.Rows
section
variable {X : Cx} {tg iter kx vx : Expr} {ifs : List Expr} {wi : TI} {js : Cap} {g : TG} {tc : TT} {tk tv : TE} {N' : List Str} {scope : Scope} {pos : Pos}
/-- name = {k: v for tg in iter if ..}: stored ahead of the block's end -/
theorem ps_setDC {i : Nat} {x : Str} {px : Pos} {spos : Pos} (hN : X.N.Nodup) (hi' : X.N[i]? = some x) (hx : Loc X.env.scope x) (hc : X.calm = true) (ok : CapOk X N' js scope) (hi : PI X tg iter wi)
    (hg : ∀ cl C s₀ H₀ ex, PG (lcx X N' scope cl C s₀ H₀ ex) tg g) (ht : ∀ cl C s₀ H₀ ex, PIfs (lcx X N' scope cl C s₀ H₀ ex) ifs tc) (he : ∀ cl C s₀ H₀ ex, PE (lcx X N' scope cl C s₀ H₀ ex) kx tk) (hv : ∀ cl C s₀ H₀ ex, PE (lcx X N' scope cl C s₀ H₀ ex) vx tv)
    (hsw : swapsWith (.DictComp kx vx [⟨tg, iter, ifs, 0⟩] scope pos) (some (.Name x px)) spos.line X.env = pure true := by rfl)
    (hs : ∀ x, foldedSetIterable iter X.env x = pure x := by intro _; rfl) (hf : X.fn x = true ∨ X.env.scope.names.lookup x = some .local := by first | exact .inl rfl | exact .inr rfl | assumption) :
    PS X (.Assign [.Name x px] (.DictComp kx vx [⟨tg, iter, ifs, 0⟩] scope pos) spos) (tAsg (tDC wi js g tc tk tv) (gName i)) := by
  intro pins s σ H D I h
  obtain ⟨cl, c1, c2, c3⟩ := clos_of (scope := scope) I.ok.has ok.free
  rw [exec_Assign_Name_used _ _ _ _ hsw]
  refine wpAny_bind (wpAny_standAt (wpAny_bind ?_))
  show wpAny _ X.A (do let _ ← comprehension (.DictComp kx vx [⟨tg, iter, ifs, 0⟩] scope pos) scope X.env _ newDict false (eval iter X.env) (some (assign (.Name x px) X.env))) _ _ s
  refine wpAny_bind (wpAny_mono (wpAny_comprehension_free (use := some (assign (.Name x px) X.env)) (Q := fun _ s' => SP X pins D .next s') rfl hs c1 ok.kind ok.names
    (thn (hi pins s σ H _ I h) fun v s1 h1 => thn h1 fun itv s2 h2 => ?_)) (fun _ s' hq => wpAny_pure (wpAny_pure hq)) fun _ _ e => e)
  obtain ⟨it, fp, tn, J, H2, e, I2, T, st2, f2, hw⟩ := h2
  subst e
  refine wpAny_mono (dc_block (Q := fun x H1 => gName i x σ H1 D.nx) (iter := iter) (pos := pos) hc ok c2 c3 hg ht he hv I2 T st2 f2 hw) (fun acc s3 h3 => wpAny_mono h3 (fun cenv s4 h4 => ?_) fun _ _ z => z) fun _ _ z => z
  refine codeAny_mono h4 fun r s5 h5 => ?_
  obtain ⟨rfl, ⟨m, hm⟩, v, H5, rv, I5, f5, q5⟩ := h5
  obtain ⟨f0, f1, f2', f3, f4, f6⟩ := f5
  show wpAny _ X.A (assign (.Name x px) X.env acc) _ _ _
  refine wpAny_assign_Name (store_ok2 I5 hN hi' hx rv (fun s6 I6 ch => ?_) hf)
  obtain ⟨a, sb, ha⟩ := ch
  have na : cenv.locals ≠ a := by
    rcases ha with z | z
    · rw [z]; exact f1
    · exact fun y => f4 x a z y.symm
  refine ⟨m, hm.sameBut sb na, fun h' sb' => ⟨_, H5, I6.turned (t' := s6.toks) (fun b o hb e => (sb'.2 b hb).trans e) f0 f1 f3 f4 f6, q5⟩⟩
end
end L2

set_option Elab.async false
set_option linter.all false
set_option maxRecDepth 100000
set_option exponentiation.threshold 2000
namespace L2
open PySem PySem.Spec PyProof.Rows
section
variable {prog : Program} {w : World} {A : Around} {E : Value → Shared → Prop} {s : Shared}
/-- t[lo:hi] that is the whole of t is t itself -/
theorem cut_whole {t sl : Addr} {items : Array Value} {vl vu : Value} {lo hi : Option Int} {Q : Value → Shared → Prop} (ht : IsTup s.heap t items) (hs : s.heap.IsSliceOf sl vl vu .none) (pl : IsPart vl lo) (pu : IsPart vu hi)
    (h0 : HT.sIx items.size 0 lo = 0) (h1 : HT.sIx items.size items.size hi = items.size) (h : Q (.ref t) s) : wpAny (model prog w) A (getItem (.ref t) (.ref sl)) Q E s := by
  obtain ⟨os, hos, hcs, hds⟩ := id hs
  have hTs : s.TypeIs (.ref sl) "slice" := ⟨os, hos, hcs⟩
  unfold getItem
  try with_reducible refine wpAny_holding ?_
  first | refine wpAny_bind (wpAny_pure ?_) | skip
  refine wpAny_bind (wpAny_sequenceKey ht.typeIs (by decide) ?_)
  refine wpAny_bind (wpAny_callSpecial?_slot (name := Str.ofString "__getitem__") ht.typeIs PyProof.Rows.slot_tuple_getitem
    (wpAny_call_entry PyProof.Rows.slot_tuple_getitem ht.typeIs PySem.F.entry_tuple_getitem ?_ (PySem.F.args_tuple_getitem_2 _ _)))
  show wpAny _ _ (Builtin.Tuple.tupleItemsOf (.ref t) >>= _) _ _ s
  refine wpAny_bind (tupleItemsOf_ ht ?_)
  refine wpAny_bind (wpAny_typeOf hTs ?_)
  rw [if_pos (by decide)]
  refine wpAny_bind (HT.sliceApplied_gen hs pl pu ?_)
  have yes : ((((HT.sIx items.size 0 lo : Nat) : Int) == 0 && (1 : Int) == 1 && (HT.sIx items.size items.size hi - HT.sIx items.size 0 lo) == items.size) = true) := by
    rw [h0, h1]
    simp
  show wpAny _ _ (if (((HT.sIx items.size 0 lo : Nat) : Int) == 0 && (1 : Int) == 1 && (HT.sIx items.size items.size hi - HT.sIx items.size 0 lo) == items.size) = true then _ else _) _ _ s
  rw [if_pos yes]
  unfold Builtin.Tuple.tupleIsExact
  refine wpAny_bind (wpAny_bind (wpAny_typeOf ht.typeIs (wpAny_pure ?_)))
  rw [if_pos (by decide)]
  exact wpAny_bind (wpAny_rule (wpAny_pure ⟨_, rfl, wpAny_pure h⟩))
end
section
variable {X : Cx}
/-- t[lo:hi] of a tuple: the whole is t itself, else a new one -/
def rSlW (K : PySem.W.Frag) : V → Option Int → Option Int → Hp → VK → Prop := fun x lo hi H Q => ∃ a xs, x = .ref a ∧ SqT K H a xs ∧
  (HT.sIx xs.length 0 lo = 0 ∧ HT.sIx xs.length xs.length hi = xs.length → Q (.ref a) H) ∧
  (¬ (HT.sIx xs.length 0 lo = 0 ∧ HT.sIx xs.length xs.length hi = xs.length) → ∀ p, H p = none → Q (.ref p) (upd H p (.tup (cutV xs lo hi))))
theorem sl_tupW : SlR X (rSlW X.K) := by
  intro pins s σ H x v vl vu lo hi sl Q I rx hs pl pu h
  obtain ⟨a, xs, rfl, hx, q1, q2⟩ := h
  by_cases hw : HT.sIx xs.length 0 lo = 0 ∧ HT.sIx xs.length xs.length hi = xs.length
  · cases rx
    obtain ⟨its, r, ht, hz⟩ := I.tuple hx
    have hlen : its.toArray.size = xs.length := by rw [List.size_toArray]; exact r.length.symm
    refine ⟨"tuple", _, PyProof.Rows.slot_tuple_getitem.lookup, ht.typeIs, ?_⟩
    exact cut_whole ht hs pl pu (by rw [hlen]; exact hw.1) (by rw [hlen]; exact hw.2) ⟨.ref a, H, I, rfl, q1 hw⟩
  · exact sl_tup pins s σ H (.ref a) v vl vu lo hi sl Q I rx hs pl pu ⟨a, xs, rfl, hx, hw, q2 hw⟩
/-- t[1:] -/
theorem sl_tail {K : PySem.W.Frag} {H : Hp} {a : Addr} {xs : List V} {Q : VK} (h : SqT K H a xs) (q : ∀ p H', Same H H' → SqT K H' p (xs.drop 1) → Q (.ref p) H') : rSlW K (.ref a) (some 1) none H Q := by
  have e0 : HT.sIx xs.length 0 (some 1) = min 1 xs.length := HT.sIx_nat _ _ 1
  refine ⟨a, xs, rfl, h, fun hw => ?_, fun hw p hp => ?_⟩
  · rw [e0] at hw
    have hl : xs.length = 0 := by omega
    have hx : xs = [] := List.length_eq_zero_iff.mp hl
    subst hx
    exact q a H (Same.refl _) h
  · refine q p _ (same_new hp _) (SqT.of ?_)
    rw [upd_same]
    unfold cutV
    rw [e0, show HT.sIx xs.length xs.length none = xs.length from rfl]
    cases xs with
    | nil => rfl
    | cons x r =>
      have e1 : min 1 (x :: r).length = 1 := by rw [List.length_cons]; omega
      rw [e1]
      congr 2
      rw [List.length_cons, Nat.add_sub_cancel]
      exact List.take_of_length_le (by simp)
end
end L2

set_option Elab.async false
set_option linter.all false
set_option maxRecDepth 100000
set_option exponentiation.threshold 2000
/-! the same rules where the context is a block's: the written part by its own letter -/
namespace L2
open PySem PySem.Spec PyProof.Rows
section
variable {X : Cx} {K : PySem.W.Frag}
theorem ix_tupK (K : PySem.W.Frag) (h : X.K = K) : IxR X (rIxT K) := by subst h; exact ix_tup
theorem pg_tupK (K : PySem.W.Frag) (h : X.K = K) {es : List Expr} {k : Nat} {t : TGs} {n : Nat} {pos : Pos} (hc : X.calm = true) (hg : PGs X es t)
    (hn : (assignEach es X.env).length = n := by rfl) (hst : (assignEach es X.env).findIdx? (·.1) = none := by rfl) : PG X (.Tuple es k pos) (gTup K n t) := by subst h; exact pg_tup hc hg hn hst
end
/-- a comprehension over two tuples side by side -/
theorem lc_zip {K : PySem.W.Frag} {t1 t2 p : Addr} {xs ys : List V} {g : TG} {tc : TT} {te : TE} {σ : St} {H : Hp} {Q : VK} {js : Cap} {n : Nat} (h1 : n ≤ xs.length) (h2 : n ≤ ys.length) (h3 : xs.length ≤ n ∨ ys.length ≤ n) (Pv : Nat → St → List V → Hp → Prop) (h0 : Pv 0 (inn js σ) [] (upd H p (.lst [])))
    (hl : ∀ i σ zs H, i ≤ n → Pv i σ zs H → SqT K H t1 xs ∧ SqT K H t2 ys ∧ H p = some (.lst zs) ∧ zs.length < sizeLine)
    (hs : ∀ (i : Nat) x y σ zs H q (N : St → List V → Hp → Prop), xs[i]? = some x → ys[i]? = some y → H q = none → Pv i σ zs H → (∀ σ' ys' H', Pv (i + 1) σ' ys' H' → N σ' ys' H') → LcTurn p g tc te zs (.ref q) σ (upd H q (.tup [x, y])) N)
    (hd : ∀ σ zs H, Pv n σ zs H → Q (.ref p) H) : LcGoal (Itz K t1 t2) p js g tc te σ H Q :=
  lc_gen (n := n) (J := Itz K t1 t2) (js := js) (σ := σ) (H := H) (p := p) (Q := Q) (g := g) (tc := tc) (te := te) Pv h0 (fun i σ zs H hi pv => (hl i σ zs H hi pv).2.2)
    (fun i σ zs H hi pv => ⟨xs, ys, xs[i], ys[i], (hl i σ zs H (Nat.le_of_lt hi) pv).1, (hl i σ zs H (Nat.le_of_lt hi) pv).2.1, by simp, by simp⟩)
    (fun σ zs H pv => ⟨xs, ys, (hl _ σ zs H (Nat.le_refl _) pv).1, (hl _ σ zs H (Nat.le_refl _) pv).2.1, h3⟩)
    (fun i v σ zs H H' N hi y pv hN => by
      obtain ⟨q, e, hq, y⟩ := y
      subst e
      have ex : xs[i]? = some xs[i] := by simp
      have ey : ys[i]? = some ys[i] := by simp
      have e2 := y xs ys _ _ (hl i σ zs H (Nat.le_of_lt hi) pv).1 (hl i σ zs H (Nat.le_of_lt hi) pv).2.1 ex ey
      subst e2
      exact hs i _ _ σ zs H q N ex ey hq pv hN) hd
end L2

set_option Elab.async false
set_option linter.all false
set_option maxRecDepth 100000
set_option exponentiation.threshold 2000
/-! dict(t), t a tuple of pairs with keys ints and texts -/
namespace L2
open PySem PySem.Spec PyProof.Rows
theorem lk_tuple_keys : typeLookup (.type "tuple") "keys" = pure none := by rw [typeLookup_type, builtinLookup_eq_fast]; kernel_rfl
set_option maxHeartbeats 4000000 in
/-- a tuple has no keys: asked quietly -/
theorem tup_no_keys {prog : Program} {w : World} {A : Around} {E : Value → Shared → Prop} {a : Addr} {its : Array Value} {n : Nat} {sl : Array (Option Value)} {h : Heap} {g d t os} {Q : Option Value → Shared → Prop}
    (hh : A.handled = none) (hx : h.get? a = some { cls := .type "tuple", dict := none, data := .seq its n, slots := sl })
    (q : ∀ h' tk, (∀ b o, h.get? b = some o → h'.get? b = some o) → Q none ⟨h', g, d, tk, os⟩) : wpAny (model prog w) A (getAttr? (.ref a) "keys") Q E ⟨h, g, d, t, os⟩ := by
  have y0 : ∀ tk', (⟨h, g, d, tk', os⟩ : Shared).TypeIs (.ref a) "tuple" := fun _ => ⟨_, hx, rfl⟩
  have y1 := sub_AttributeError
  have y2 := F.slot_tuple_getattribute.lookup
  have y3 := F.slot_tuple_getattribute.bind (.ref a)
  have y4 := am_tuple_getattr_none
  unfold getAttr? getAttrBy? getAttrBy
  repeat (any_goals (first
    | assumption
    | exact y0 _
    | ((with_reducible show wpAny _ _ (call (Value.builtin "tuple.__getattribute__") _ _) _ _ _)
       refine call_meets F.slot_tuple_getattribute (y0 _) am_entry_tuple_getattribute (F.args_tuple_getattribute_2 _ _) (meets_getattribute_miss_tuple a its n sl "keys" _ lk_tuple_keys (by decide +kernel)) ⟨hx, hh, fun h' tk' e hx' => ?_⟩)
    | wp_step))
  obtain ⟨t', u', he⟩ := hx'.there
  show wpAny _ _ (getattributeRaised _ _ _ _ _ _ _) _ _ _
  unfold getattributeRaised
  repeat (any_goals (first | assumption | wp_step))
  exact q _ _ hx'.keeps
theorem sub_dict0 : isSubtype (.type "dict") (.type "dict") = pure true := by rw [isSubtype_type]; kernel_rfl
section
variable {prog : Program} {w : World} {A : Around} {E : Value → Shared → Prop} {s : Shared}
/-- a pair of the tuple: the key, its value, the tuple that holds both -/
structure Pr (P : Program) (w : World) where
  k : Key
  key : Value
  v : Value
  p : Addr
  is : (mixKind P w).is k key = true
end
end L2
namespace L2
open PySem PySem.Spec PyProof.Rows
/-- dict(t): a tuple of tuples of two -/
def rDictT : List V → Hp → VK → Prop := fun xs H Q => ∃ (a : Addr) (prs : List (Addr × Key × V)), xs = [.ref a] ∧ H a = some (.tup (prs.map fun p => V.ref p.1)) ∧ (∀ p ∈ prs, H p.1 = some (.tup [kV p.2.1, p.2.2])) ∧
  ∀ d, H d = none → Q (.ref d) (upd H d (.dK (prs.foldl (fun acc p => putK acc p.2.1 p.2.2) [])))
section
variable {X : Cx}
end
end L2

set_option Elab.async false
set_option linter.all false
set_option maxRecDepth 100000
set_option exponentiation.threshold 2000
/-! enumerate of a list, walked by a target of names -/
namespace L2
open PySem PySem.Spec PyProof.Rows
section
variable {X : Cx} {pins : List (Addr × Obj)} {σ : St} {H : Hp} {s : Shared} {h' : Heap}
end
def Ite (K : PySem.W.Frag) (a : Addr) : It :=
  ⟨fun k H => ∃ (xs : List V) (x : V), SqL K H a xs ∧ xs[k]? = some x,
   fun k H v H' => ∃ p, v = .ref p ∧ H p = none ∧ ∀ (xs : List V) (x : V), SqL K H a xs → xs[k]? = some x → H' = upd H p (.tup [.int k, x]),
   fun k H => ∃ (xs : List V), SqL K H a xs ∧ xs.length ≤ k⟩
section
variable {X : Cx}
def iEnum (K : PySem.W.Frag) (ta : TA) : TI := fun σ H R => ta σ H fun vs H1 => ∃ t, vs = [.ref t] ∧ (∃ xs, SqL K H1 t xs) ∧ R (Ite K t) H1
end
end L2

set_option Elab.async false
set_option linter.all false
set_option maxRecDepth 100000
set_option exponentiation.threshold 2000
namespace L2
open PySem PySem.Spec PyProof.Rows
section
variable {X : Cx} {e : Expr} {te : TE} {pos p2 p3 p4 : Pos} {n : Nat}
/-- xs[::-1] of a list: a new list -/
def tRev (K : PySem.W.Frag) (te : TE) : TE := fun σ H Q => te σ H fun x H1 => ∃ a xs, x = .ref a ∧ SqL K H1 a xs ∧ ∀ p, H1 p = none → Q (.ref p) (upd H1 p (.lst xs.reverse))
theorem Vals.rev : ∀ {xs : List V} {us : List Value}, Vals xs us → Vals xs.reverse us.reverse
  | _, _, .nil => .nil
  | _, _, .cons r t => by
    rw [List.reverse_cons, List.reverse_cons]
    exact (Vals.rev t).append (.cons r .nil)
end
/-! ### how many unlike ints a list has: len(set(xs)) -/
def unlike (ns : List Int) : Nat := (ns.foldl step_dedup []).length
section
variable {X : Cx} {e : Expr} {te : TE} {pos p2 p3 p4 : Pos}
def tLenSet (K : PySem.W.Frag) (te : TE) : TE := fun σ H Q => te σ H fun x H1 => ∃ a ns, [x] = [V.ref a] ∧ SqL K H1 a (ns.map V.int) ∧ ns.length < 4000 ∧ Q (.int (unlike ns)) H1
end

/-! ### zip of two lists, walked by a target of names -/
def Itzl (K : PySem.W.Frag) (t1 t2 : Addr) : It :=
  ⟨fun k H => ∃ (xs ys : List V) (x y : V), SqL K H t1 xs ∧ SqL K H t2 ys ∧ xs[k]? = some x ∧ ys[k]? = some y,
   fun k H v H' => ∃ p, v = .ref p ∧ H p = none ∧ ∀ (xs ys : List V) (x y : V), SqL K H t1 xs → SqL K H t2 ys → xs[k]? = some x → ys[k]? = some y → H' = upd H p (.tup [x, y]),
   fun k H => ∃ (xs ys : List V), SqL K H t1 xs ∧ SqL K H t2 ys ∧ (xs.length ≤ k ∨ ys.length ≤ k)⟩
section
variable {X : Cx}
def iZipL (K : PySem.W.Frag) (ta : TA) : TI := fun σ H R => ta σ H fun vs H1 => ∃ t u, vs = [.ref t, .ref u] ∧ (∃ xs, SqL K H1 t xs) ∧ (∃ ys, SqL K H1 u ys) ∧ R (Itzl K t u) H1
end
end L2

set_option linter.all false
/-! the mathematics of webs: plain lists of ints -/
namespace WB
def Web (W : List Int) : Prop := W.length ≤ 23 ∧ ∀ (i : Nat) (x : Int), W[i]? = some x → 0 ≤ x ∧ x ≤ (i : Int)
def Post (W : List Int) (p : Int) : Prop := 0 ≤ p ∧ p ≤ (W.length : Int)
def par (W : List Int) (p : Int) : Int := W.getD (p - 1).toNat 0
theorem par_at {W : List Int} {p : Int} (h : Post W p) (h0 : 0 < p) : W[(p - 1).toNat]? = some (par W p) := by
  obtain ⟨h1, h2⟩ := h
  have : (p - 1).toNat < W.length := by omega
  unfold par
  rw [List.getD_eq_getElem?_getD, List.getElem?_eq_getElem this]
  rfl
theorem par_lt {W : List Int} {p : Int} (w : Web W) (h : Post W p) (h0 : 0 < p) : 0 ≤ par W p ∧ par W p < p := by
  have := w.2 _ _ (par_at h h0)
  omega
theorem par_post {W : List Int} {p : Int} (w : Web W) (h : Post W p) (h0 : 0 < p) : Post W (par W p) := by
  have := par_lt w h h0
  obtain ⟨h1, h2⟩ := h
  exact ⟨this.1, by omega⟩
def back (W : List Int) : Nat → Int → List Int
  | 0, p => [p]
  | f + 1, p => if 0 < p then p :: back W f (par W p) else [p]
def bk (W : List Int) (p : Int) : List Int := back W p.toNat p
theorem back_fuel {W : List Int} (w : Web W) : ∀ (f g : Nat) (p : Int), Post W p → p.toNat ≤ f → p.toNat ≤ g → back W f p = back W g p
  | 0, 0, p, _, _, _ => rfl
  | 0, g + 1, p, h, h1, _ => by
    have : ¬ 0 < p := by omega
    unfold back
    rw [if_neg this]
  | f + 1, 0, p, h, _, h1 => by
    have : ¬ 0 < p := by omega
    unfold back
    rw [if_neg this]
  | f + 1, g + 1, p, h, h1, h2 => by
    unfold back
    by_cases h0 : 0 < p
    · rw [if_pos h0, if_pos h0]
      have := par_lt w h h0
      rw [back_fuel w f g _ (par_post w h h0) (by omega) (by omega)]
    · rw [if_neg h0, if_neg h0]
theorem bk_pos {W : List Int} {p : Int} (w : Web W) (h : Post W p) (h0 : 0 < p) : bk W p = p :: bk W (par W p) := by
  unfold bk
  obtain ⟨n, hn⟩ : ∃ n, p.toNat = n + 1 := ⟨p.toNat - 1, by omega⟩
  rw [hn]
  have := par_lt w h h0
  show (if 0 < p then p :: back W n (par W p) else [p]) = _
  rw [if_pos h0, back_fuel w n (par W p).toNat _ (par_post w h h0) (by omega) (Nat.le_refl _)]
theorem bk_zero (W : List Int) : bk W 0 = [0] := rfl
theorem post_ind {W : List Int} (w : Web W) {P : Int → Prop} (h0 : P 0) (hs : ∀ p, Post W p → 0 < p → P (par W p) → P p) : ∀ p, Post W p → P p := by
  have : ∀ (n : Nat) (p : Int), p.toNat ≤ n → Post W p → P p := by
    intro n
    induction n with
    | zero =>
      intro p hn hp
      have : p = 0 := by have := hp.1; omega
      subst this
      exact h0
    | succ n ih =>
      intro p hn hp
      by_cases hp0 : 0 < p
      · have := par_lt w hp hp0
        exact hs p hp hp0 (ih _ (by omega) (par_post w hp hp0))
      · have : p = 0 := by have := hp.1; omega
        subst this
        exact h0
  exact fun p hp => this _ p (Nat.le_refl _) hp
theorem bk_cons {W : List Int} (w : Web W) {p : Int} (h : Post W p) : ∃ t, bk W p = p :: t := by
  by_cases h0 : 0 < p
  · exact ⟨_, bk_pos w h h0⟩
  · have : p = 0 := by have := h.1; omega
    subst this
    exact ⟨_, bk_zero W⟩
theorem bk_mem {W : List Int} (w : Web W) : ∀ p, Post W p → ∀ x ∈ bk W p, Post W x ∧ x ≤ p ∧ ∃ pre, bk W p = pre ++ bk W x := by
  refine post_ind w ?_ ?_
  · intro x hx
    rw [bk_zero] at hx
    simp at hx
    subst hx
    exact ⟨⟨by decide, by omega⟩, by decide, [], rfl⟩
  · intro p hp h0 ih x hx
    have e := bk_pos w hp h0
    rw [e] at hx
    rcases List.mem_cons.mp hx with rfl | hx
    · exact ⟨hp, Int.le_refl _, [], rfl⟩
    · obtain ⟨a, b, pre, c⟩ := ih x hx
      have := par_lt w hp h0
      exact ⟨a, by omega, p :: pre, by rw [e, c]; rfl⟩
theorem bk_has0 {W : List Int} (w : Web W) : ∀ p, Post W p → (0 : Int) ∈ bk W p := by
  refine post_ind w ?_ ?_
  · rw [bk_zero]; simp
  · intro p hp h0 ih
    rw [bk_pos w hp h0]
    exact List.mem_cons_of_mem _ ih
theorem bk_dec {W : List Int} (w : Web W) : ∀ p, Post W p → (bk W p).Pairwise (· > ·) := by
  refine post_ind w ?_ ?_
  · rw [bk_zero]; simp
  · intro p hp h0 ih
    rw [bk_pos w hp h0]
    refine List.pairwise_cons.mpr ⟨fun x hx => ?_, ih⟩
    have := (bk_mem w _ (par_post w hp h0) x hx).2.1
    have := par_lt w hp h0
    omega
theorem dec_nodup {l : List Int} (h : l.Pairwise (· > ·)) : l.Nodup := h.imp (fun a => by omega)
theorem bk_nodup {W : List Int} (w : Web W) {p : Int} (h : Post W p) : (bk W p).Nodup := dec_nodup (bk_dec w p h)
/-! two ways back meet -/
structure Split (W : List Int) (p q c : Int) (a b : List Int) : Prop where
  pc : Post W c
  ea : bk W p = a ++ bk W c
  eb : bk W q = b ++ bk W c
  na : ∀ x ∈ a, x ∉ bk W q
  nb : ∀ x ∈ b, x ∉ bk W p
theorem split {W : List Int} (w : Web W) {q : Int} (hq : Post W q) : ∀ p, Post W p → ∃ c a b, Split W p q c a b := by
  have inB : ∀ p, Post W p → p ∈ bk W q → ∃ c a b, Split W p q c a b := by
    intro p hp hm
    obtain ⟨_, _, pre, e⟩ := bk_mem w q hq p hm
    refine ⟨p, [], pre, hp, rfl, e, fun x hx => by simp at hx, fun x hx hx2 => ?_⟩
    have nd := bk_nodup w hq
    rw [e, List.nodup_append] at nd
    exact nd.2.2 x hx x hx2 rfl
  refine post_ind w ?_ ?_
  · exact inB 0 ⟨by decide, by omega⟩ (bk_has0 w q hq)
  · intro p hp h0 ih
    by_cases hm : p ∈ bk W q
    · exact inB p hp hm
    · obtain ⟨c, a, b, s⟩ := ih
      have e := bk_pos w hp h0
      refine ⟨c, p :: a, b, s.pc, by rw [e, s.ea]; rfl, s.eb, fun x hx => ?_, fun x hx hx2 => ?_⟩
      · rcases List.mem_cons.mp hx with rfl | hx
        · exact hm
        · exact s.na x hx
      · rw [e] at hx2
        rcases List.mem_cons.mp hx2 with rfl | hx2
        · exact hm (by rw [s.eb]; exact List.mem_append_left _ hx)
        · exact s.nb x hx hx2
theorem Split.flip {W : List Int} {p q c : Int} {a b : List Int} (s : Split W p q c a b) : Split W q p c b a := ⟨s.pc, s.eb, s.ea, s.nb, s.na⟩
def off (B : List Int) (x : Int) : Bool := !B.any (fun y => y == x)
theorem off_iff {B : List Int} {x : Int} : off B x = true ↔ x ∉ B := by
  unfold off
  rw [Bool.not_eq_true', ← Bool.not_eq_true, List.any_eq_true]
  constructor
  · intro h hx
    exact h ⟨x, hx, by simp⟩
  · rintro h ⟨y, hy, e⟩
    have := eq_of_beq e
    subst this
    exact h hy
theorem Split.ahead {W : List Int} {p q c : Int} {a b : List Int} (s : Split W p q c a b) : (bk W p).filter (off (bk W q)) = a := by
  rw [s.ea, List.filter_append]
  have h1 : a.filter (off (bk W q)) = a := List.filter_eq_self.mpr fun x hx => off_iff.mpr (s.na x hx)
  have h2 : (bk W c).filter (off (bk W q)) = [] := List.filter_eq_nil_iff.mpr fun x hx z => off_iff.mp z (by rw [s.eb]; exact List.mem_append_right _ hx)
  rw [h1, h2, List.append_nil]
/-- the way from p to q -/
def wayB (W : List Int) (p q : Int) : List Int :=
  (bk W p).filter (off (bk W q)) ++ [(bk W p).getD ((bk W p).filter (off (bk W q))).length 0] ++ ((bk W q).filter (off (bk W p))).reverse
theorem Split.turn {W : List Int} (w : Web W) {p q c : Int} {a b : List Int} (s : Split W p q c a b) : (bk W p)[a.length]? = some c := by
  obtain ⟨t, e⟩ := bk_cons w s.pc
  rw [s.ea, List.getElem?_append_right (Nat.le_refl _), Nat.sub_self, e]
  rfl
theorem Split.way {W : List Int} (w : Web W) {p q c : Int} {a b : List Int} (s : Split W p q c a b) : wayB W p q = a ++ c :: b.reverse := by
  unfold wayB
  rw [s.ahead, s.flip.ahead, List.getD_eq_getElem?_getD, s.turn w]
  simp
/-! neighbours -/
def Adj (W : List Int) (x y : Int) : Prop := 0 < max x y ∧ W[(max x y - 1).toNat]? = some (min x y)
theorem Adj.symm {W : List Int} {x y : Int} (h : Adj W x y) : Adj W y x := by
  unfold Adj at *
  rw [Int.max_comm, Int.min_comm]
  exact h
def Adjs (W : List Int) : List Int → Prop
  | [] => True
  | [_] => True
  | x :: y :: r => Adj W x y ∧ Adjs W (y :: r)
theorem Adjs.left {W : List Int} : ∀ (a : List Int) {c : Int} {t : List Int}, Adjs W (a ++ c :: t) → Adjs W (a ++ [c])
  | [], c, t, _ => trivial
  | [x], c, t, h => ⟨h.1, trivial⟩
  | x :: y :: r, c, t, h => ⟨h.1, Adjs.left (y :: r) h.2⟩
theorem Adjs.right {W : List Int} : ∀ (a : List Int) {b : List Int}, Adjs W (a ++ b) → Adjs W b
  | [], b, h => h
  | [x], [], h => trivial
  | [x], c :: t, h => h.2
  | x :: y :: r, b, h => Adjs.right (y :: r) h.2
theorem Adjs.join {W : List Int} : ∀ (a : List Int) {c : Int} {b : List Int}, Adjs W (a ++ [c]) → Adjs W (c :: b) → Adjs W (a ++ c :: b)
  | [], c, b, _, h => h
  | [x], c, b, h, h2 => ⟨h.1, h2⟩
  | x :: y :: r, c, b, h, h2 => ⟨h.1, Adjs.join (y :: r) h.2 h2⟩
theorem Adjs.rev {W : List Int} : ∀ (l : List Int), Adjs W l → Adjs W l.reverse
  | [], _ => trivial
  | [x], _ => trivial
  | x :: y :: r, h => by
    have ih := Adjs.rev (y :: r) h.2
    rw [List.reverse_cons] at ih
    rw [List.reverse_cons, List.reverse_cons, List.append_assoc]
    exact Adjs.join _ ih ⟨h.1.symm, trivial⟩
theorem Adjs.at {W : List Int} : ∀ (l : List Int), Adjs W l → ∀ i x y, l[i]? = some x → l[i + 1]? = some y → Adj W x y
  | [], _, i, x, y, h, _ => by simp at h
  | [z], _, i, x, y, _, h => by simp at h
  | u :: v :: r, h, 0, x, y, hx, hy => by
    simp at hx hy
    subst hx hy
    exact h.1
  | u :: v :: r, h, i + 1, x, y, hx, hy => Adjs.at (v :: r) h.2 i x y (by simpa using hx) (by simpa using hy)
/-! the way is one -/
structure IsWay (W : List Int) (l : List Int) (p q : Int) : Prop where
  first : l[0]? = some p
  last : l[l.length - 1]? = some q
  nd : l.Nodup
  posts : ∀ x ∈ l, Post W x
  adj : Adjs W l
  len : l.length ≤ 60
end WB

set_option Elab.async false
set_option linter.all false
set_option maxRecDepth 100000
set_option exponentiation.threshold 2000
namespace L2
open PySem PySem.Spec PyProof.Rows
section
variable {X : Cx}
def CMulB (i j : Int) : Prop := i.natAbs < 2 ^ 1000 ∧ j.natAbs < 2 ^ 1000
end
section
variable {K : PySem.W.Frag} {H : Hp} {Q : VK}
end
/-! ### a bag of three ints -/
def Bag3 (H : Hp) (b : Addr) (n : Int) : Prop := ∃ x y z : Int, H b = some (.lst [.int x, .int y, .int z]) ∧ 0 ≤ x ∧ 0 ≤ y ∧ y < 10 ^ 41 ∧ 0 ≤ z ∧ z ≤ n
/-- all but b is as it was -/
def But (b : Addr) (H H' : Hp) : Prop := ∀ a o, H a = some o → a ≠ b → H' a = some o
theorem But.refl (b : Addr) (H : Hp) : But b H H := fun _ _ h _ => h
theorem But.trans {b : Addr} {H H1 H2 : Hp} (x : But b H H1) (y : But b H1 H2) : But b H H2 := fun a o h n => y a o (x a o h n) n
theorem Same.but {b : Addr} {H H' : Hp} (x : Same H H') : But b H H' := fun a o h _ => x a o h
theorem Bag3.same {b : Addr} {H H' : Hp} {n : Int} (B : Bag3 H b n) (s : Same H H') : Bag3 H' b n := by
  obtain ⟨x, y, z, h, r⟩ := B
  exact ⟨x, y, z, s _ _ h, r⟩
theorem Bag3.mono {b : Addr} {H : Hp} {n m : Int} (B : Bag3 H b n) (h : n ≤ m) : Bag3 H b m := by
  obtain ⟨x, y, z, h0, h1, h2, h3, h4, h5⟩ := B
  exact ⟨x, y, z, h0, h1, h2, h3, h4, Int.le_trans h5 h⟩
theorem Bag3.ne {b p : Addr} {H : Hp} {n : Int} (B : Bag3 H b n) (h : H p = none) : p ≠ b := by
  obtain ⟨x, y, z, h0, _⟩ := B
  exact (ne_of_none h0 h).symm
def spTake3 : Sp := fun vs H Q _ => ∃ (b : Addr) (n many : Int), vs = [.ref b, .int many] ∧ Bag3 H b n ∧ n ≤ 2 ^ 30 ∧ 0 < many ∧ many < 2 ^ 500 ∧
  ∀ (r : Int) (H' : Hp), 0 ≤ r → r < many → Bag3 H' b (n + 1) → But b H H' → Q (.int r) H'
def spBag3 (K : PySem.W.Frag) : Sp := fun vs H Q _ => ∃ (a : Addr) (ns : List Int) (k : Int), vs = [.ref a, .int k] ∧ SqL K H a (ns.map V.int) ∧ 0 ≤ k ∧ k ≤ 100 ∧
  ∀ (b : Addr) (H' : Hp), Bag3 H' b 6100 → Same H H' → H b = none → Q (.ref b) H'
/-! ### webs -/
def spWeb3 : Sp := fun vs H Q _ => ∃ (b : Addr) (n : Int), vs = [.ref b, .int 23] ∧ Bag3 H b n ∧ n ≤ 2 ^ 29 ∧
  ∀ (a : Addr) (W : List Int) (H' : Hp), WB.Web W → H' a = some (.lst (W.map V.int)) → H a = none → Bag3 H' b (n + 100) → But b H H' → a ≠ b → Q (.ref a) H'
def WebAt (H : Hp) (a : Addr) (W : List Int) : Prop := H a = some (.lst (W.map V.int)) ∧ WB.Web W
theorem WebAt.same {H H' : Hp} {a : Addr} {W : List Int} (h : WebAt H a W) (s : Same H H') : WebAt H' a W := ⟨s _ _ h.1, h.2⟩
def spIsWeb : Sp := fun vs H Q _ => ∃ (a : Addr) (W : List Int), vs = [.ref a] ∧ WebAt H a W ∧ ∀ H', Same H H' → Q (.bl true) H'
def spChkWeb : Sp := fun vs H Q _ => ∃ (a : Addr) (W : List Int), vs = [.ref a] ∧ WebAt H a W ∧ ∀ H', Same H H' → Q .non H'
def spIsPost : Sp := fun vs H Q _ => ∃ (a : Addr) (W : List Int) (p : Int), vs = [.ref a, .int p] ∧ WebAt H a W ∧ WB.Post W p ∧ Q (.bl true) H
def spChkPost : Sp := fun vs H Q _ => ∃ (a : Addr) (W : List Int) (p : Int), vs = [.ref a, .int p] ∧ WebAt H a W ∧ WB.Post W p ∧ Q .non H
def spWayBack : Sp := fun vs H Q _ => ∃ (a : Addr) (W : List Int) (p : Int), vs = [.ref a, .int p] ∧ WebAt H a W ∧ WB.Post W p ∧ ∀ l H', Same H H' → H l = none → H' l = some (.lst ((WB.bk W p).map V.int)) → Q (.ref l) H'
def spWay : Sp := fun vs H Q _ => ∃ (a : Addr) (W : List Int) (p q : Int), vs = [.ref a, .int p, .int q] ∧ WebAt H a W ∧ WB.Post W p ∧ WB.Post W q ∧ ∀ l H', Same H H' → H l = none → H' l = some (.lst ((WB.wayB W p q).map V.int)) → Q (.ref l) H'
end L2

set_option Elab.async false
set_option linter.all false
set_option maxRecDepth 100000
set_option exponentiation.threshold 2000
namespace L2
open PySem PySem.Spec PyProof.Rows

theorem none_of {H H' : Hp} {l : Addr} (s : Same H H') (h : H' l = none) : H l = none := by
  cases hz : H l with
  | none => rfl
  | some o => rw [s _ _ hz] at h; cases h
theorem nb {i : Int} (h0 : 0 ≤ i) (h1 : i < 2 ^ 400) : i.natAbs < 2 ^ 1000 := by
  have : i.natAbs < 2 ^ 400 := by omega
  exact Nat.lt_of_lt_of_le this (by decide)
theorem stir {y z : Int} (y0 : 0 ≤ y) (y1 : y < 10 ^ 41) (z0 : 0 ≤ z) (z1 : z ≤ 2 ^ 31) :
    CMulB 30011 z ∧ CMulB (y + 1) (30011 * z + 7) ∧ CMulB 104729 z ∧ CMulB (104729 * z) z ∧ 0 ≤ (y + 1) * (30011 * z + 7) + 104729 * z * z ∧ (y + 1) * (30011 * z + 7) + 104729 * z * z < 2 ^ 400 := by
  have a0 : 0 ≤ 30011 * z + 7 := by omega
  have a1 : 30011 * z + 7 ≤ 2 ^ 50 := by omega
  have a2 : (y + 1) * (30011 * z + 7) ≤ (10 ^ 41) * 2 ^ 50 := Int.mul_le_mul (by omega) a1 a0 (by decide)
  have a3 : 0 ≤ (y + 1) * (30011 * z + 7) := Int.mul_nonneg (by omega) a0
  have b0 : 0 ≤ 104729 * z := by omega
  have b1 : 104729 * z ≤ 2 ^ 50 := by omega
  have b2 : 104729 * z * z ≤ 2 ^ 50 * 2 ^ 31 := Int.mul_le_mul b1 z1 z0 (by decide)
  have b3 : 0 ≤ 104729 * z * z := Int.mul_nonneg b0 z0
  refine ⟨⟨by decide, nb z0 (by omega)⟩, ⟨nb (by omega) (by omega), nb a0 (by omega)⟩, ⟨by decide, nb z0 (by omega)⟩, ⟨nb b0 (by omega), nb z0 (by omega)⟩, by omega, by omega⟩

def spLaw (K : PySem.W.Frag) : Sp := fun vs H Q _ => ∃ (a : Addr) (ns : List Int), vs = [.ref a] ∧ SqL K H a (ns.map V.int) ∧ ns.length ≤ 63 ∧ ∀ H', Q (.bl true) H'
theorem But.same {b : Addr} {H H' : Hp} (h : But b H H') (n : H b = none) : Same H H' := fun a o e => h a o e (ne_of_none e n)
theorem mx (i j : Int) : (if j > i then j else i) = max i j := by rw [Int.max_def]; split <;> split <;> omega
theorem mn (i j : Int) : (if j < i then j else i) = min i j := by rw [Int.min_def]; split <;> split <;> omega
def spIsWay : Sp := fun vs H Q _ => ∃ (a f : Addr) (W l : List Int) (p q : Int), vs = [.ref a, .ref f, .int p, .int q] ∧ WebAt H a W ∧ H f = some (.lst (l.map V.int)) ∧ WB.IsWay W l p q ∧ ∀ H', Same H H' → Q (.bl true) H'

def PairAt (H : Hp) (W : List Int) (y : V) : Prop := ∃ (t : Addr) (x z : Int), y = .ref t ∧ H t = some (.tup [.int x, .int z]) ∧ WB.Post W x ∧ WB.Post W z
/-- tuples stay -/
def Tups (H H' : Hp) : Prop := ∀ a xs, H a = some (.tup xs) → H' a = some (.tup xs)
theorem PairAt.keep {H H' : Hp} {W : List Int} {y : V} (h : PairAt H W y) (s : Tups H H') : PairAt H' W y := by
  obtain ⟨t, x, z, e, h1, r⟩ := h
  exact ⟨t, x, z, e, s _ _ h1, r⟩
theorem Tups.trans {H H1 H2 : Hp} (a : Tups H H1) (b : Tups H1 H2) : Tups H H2 := fun c xs h => b c xs (a c xs h)
theorem Same.tups {H H' : Hp} (s : Same H H') : Tups H H' := fun a xs h => s _ _ h
theorem But.tups {b : Addr} {H H' : Hp} {n : Int} (B : Bag3 H b n) (s : But b H H') : Tups H H' := fun a xs h => by
  obtain ⟨x, y, z, hb, _⟩ := B
  exact s _ _ h (ne_of h hb (by intro z; cases z))
theorem tups_lst {H : Hp} {p : Addr} {ys : List V} {o : HO} (h : H p = some (.lst ys)) : Tups H (upd H p o) := fun a xs e => by
  rw [upd_ne (ne_of e h (by intro z; cases z))]
  exact e
theorem upd_off {H H0 : Hp} {p : Addr} {o : HO} (s : Same H0 H) (n : H0 p = none) : Same H0 (upd H p o) := fun a u e => by
  rw [upd_ne (ne_of_none e n)]
  exact s _ _ e
end L2

set_option Elab.async false
set_option linter.all false
set_option maxRecDepth 100000
set_option exponentiation.threshold 2000
namespace L2
open PySem PySem.Spec PyProof.Rows
section
variable {X : Cx} {pos : Pos}
/-- a, b, c = x, y, z with plain local names -/
def tPar3 (i j k : Nat) (ta : TA) : TS := fun D σ H => ta σ H fun vs H1 => ∃ v w u, vs = [v, w, u] ∧ D.nx (((σ.set i (some v)).set j (some w)).set k (some u)) H1
/-- xs.index(x) of a list of ints that has it -/
def rIndex (K : PySem.W.Frag) : V → List V → Hp → VK → Prop := fun x vs H Q => ∃ (l : Addr) (ns : List Int) (n : Int) (j : Nat), x = .ref l ∧ vs = [.int n] ∧ SqL K H l (ns.map V.int) ∧ ns[j]? = some n ∧ (∀ (m : Nat) (y : Int), m < j → ns[m]? = some y → y ≠ n) ∧ Q (.int j) H
end
end L2

set_option linter.all false
namespace WB
structure Path (W : List Int) (l : List Int) (p q : Int) : Prop where
  first : l.head? = some p
  last : l.getLast? = some q
  nd : l.Nodup
  posts : ∀ x ∈ l, Post W x
  adj : Adjs W l
theorem Path.pre {W l a b : List Int} {p q x : Int} (h : Path W l p q) (e : l = a ++ x :: b) : Path W (a ++ [x]) p x := by
  subst e
  have nd := h.nd
  have f := h.first
  refine ⟨?_, by simp, ?_, fun y hy => h.posts y ?_, h.adj.left a⟩
  · cases a with
    | nil => simpa using f
    | cons y a => simpa using f
  · rw [List.nodup_append] at nd ⊢
    refine ⟨nd.1, by simp, fun y hy z hz => ?_⟩
    rw [List.mem_singleton] at hz
    subst hz
    exact nd.2.2 y hy z (List.mem_cons_self ..)
  · rcases List.mem_append.mp hy with z | z
    · exact List.mem_append_left _ z
    · rw [List.mem_singleton.mp z]; exact List.mem_append_right _ (List.mem_cons_self ..)
structure Med (W : List Int) (p q r c : Int) (u s t : List Int) : Prop where
  e1 : wayB W p q = u ++ c :: s
  e3 : wayB W p r = u ++ c :: t
  e2 : wayB W q r = s.reverse ++ c :: t
  st : ∀ x ∈ s, x ∉ t
  us : ∀ x ∈ u, x ∉ s ∧ x ∉ t ∧ x ≠ c
  cs : c ∉ s ∧ c ∉ t
def has (l : List Int) (x : Int) : Bool := l.any (fun y => y == x)
theorem has_iff {l : List Int} {x : Int} : has l x = true ↔ x ∈ l := by
  unfold has
  rw [List.any_eq_true]
  constructor
  · rintro ⟨y, hy, e⟩
    rw [← eq_of_beq e]; exact hy
  · intro h; exact ⟨x, h, by simp⟩
def med (W : List Int) (p q r : Int) : List Int := (wayB W p q).filter (fun x => has (wayB W q r) x && has (wayB W p r) x)
theorem Med.one {W : List Int} {p q r c : Int} {u s t : List Int} (m : Med W p q r c u s t) : med W p q r = [c] := by
  unfold med
  have mem2 : ∀ x, x ∈ wayB W q r ↔ x ∈ s ∨ x = c ∨ x ∈ t := fun x => by rw [m.e2]; simp
  have mem3 : ∀ x, x ∈ wayB W p r ↔ x ∈ u ∨ x = c ∨ x ∈ t := fun x => by rw [m.e3]; simp
  rw [m.e1, List.filter_append, List.filter_cons]
  have hu : u.filter (fun x => has (wayB W q r) x && has (wayB W p r) x) = [] := List.filter_eq_nil_iff.mpr fun x hx z => by
    rw [Bool.and_eq_true, has_iff, has_iff, mem2] at z
    obtain ⟨a, b, d⟩ := m.us x hx
    rcases z.1 with h | h | h
    · exact a h
    · exact d h
    · exact b h
  have hs : s.filter (fun x => has (wayB W q r) x && has (wayB W p r) x) = [] := List.filter_eq_nil_iff.mpr fun x hx z => by
    rw [Bool.and_eq_true, has_iff, has_iff, mem3] at z
    rcases z.2 with h | h | h
    · exact (m.us x h).1 hx
    · subst h; exact m.cs.1 hx
    · exact m.st x hx h
  rw [hu, hs, if_pos]
  · rfl
  · rw [Bool.and_eq_true, has_iff, has_iff, mem2, mem3]
    exact ⟨.inr (.inl rfl), .inr (.inl rfl)⟩
/-! neighbours -/
/-- what lies beside p, rising -/
def kids (W : List Int) (p : Int) : List Int := ((List.range W.length).filter (fun i => W.getD i 0 == p)).map (fun (i : Nat) => (i : Int) + 1)
def roads (W : List Int) (p : Int) : List Int := (if 0 < p then [par W p] else []) ++ kids W p
/-- the side of q, seen from p -/
def sideL (W : List Int) (p q : Int) : List Int := ((List.range (W.length + 1)).map (fun (i : Nat) => (i : Int))).filter (fun x => has (wayB W x p) q)
end WB

set_option linter.all false
namespace WB
end WB

set_option Elab.async false
set_option linter.all false
set_option maxRecDepth 100000
set_option exponentiation.threshold 2000
namespace L2
open PySem PySem.Spec PyProof.Rows
def spRoads : Sp := fun vs H Q _ => ∃ (a : Addr) (W : List Int) (p : Int), vs = [.ref a, .int p] ∧ WebAt H a W ∧ WB.Post W p ∧ ∀ l H', Same H H' → H l = none → H' l = some (.lst ((WB.roads W p).map V.int)) → Q (.ref l) H'
def spChkRoad : Sp := fun vs H Q _ => ∃ (a : Addr) (W : List Int) (p q : Int), vs = [.ref a, .int p, .int q] ∧ WebAt H a W ∧ WB.Post W p ∧ WB.Post W q ∧ q ∈ WB.roads W p ∧ ∀ H', Same H H' → Q .non H'
def spSide : Sp := fun vs H Q _ => ∃ (a : Addr) (W : List Int) (p q : Int), vs = [.ref a, .int p, .int q] ∧ WebAt H a W ∧ WB.Post W p ∧ WB.Post W q ∧ q ∈ WB.roads W p ∧ ∀ l H', Same H H' → H l = none → H' l = some (.lst ((WB.sideL W p q).map V.int)) → Q (.ref l) H'
def spMeet : Sp := fun vs H Q _ => ∃ (a : Addr) (W : List Int) (p q r c : Int), vs = [.ref a, .int p, .int q, .int r] ∧ WebAt H a W ∧ WB.Post W p ∧ WB.Post W q ∧ WB.Post W r ∧ WB.med W p q r = [c] ∧ ∀ H', Same H H' → Q (.int c) H'
def spThree : Sp := fun vs H Q _ => ∃ (a : Addr) (W : List Int) (p q r : Int), vs = [.ref a, .int p, .int q, .int r] ∧ WebAt H a W ∧ WB.Post W p ∧ WB.Post W q ∧ WB.Post W r ∧ ∀ H', Same H H' → Q (.bl true) H'
def spSteps : Sp := fun vs H Q _ => ∃ (a : Addr) (W : List Int) (p q : Int), vs = [.ref a, .int p, .int q] ∧ WebAt H a W ∧ WB.Post W p ∧ WB.Post W q ∧ ∀ H', Same H H' → Q (.bl true) H'
end L2

set_option Elab.async false
set_option linter.all false
set_option maxRecDepth 100000
set_option exponentiation.threshold 2000
namespace L2
open PySem PySem.Spec PyProof.Rows
section
variable {X : Cx}
/-- sorted(xs) of a list of ints, fewer than 64 -/
def rSortI (K : PySem.W.Frag) : List V → Hp → VK → Prop := fun xs H Q => ∃ (a : Addr) (ns : List Int), xs = [.ref a] ∧ SqL K H a (ns.map V.int) ∧ ns.length < 64 ∧
  ∀ (p : Addr) (ms : List Int), ms.Perm ns → ms.Pairwise (· ≤ ·) → H p = none → Q (.ref p) (upd H p (.lst (ms.map V.int)))
variable {e : Expr} {te : TE} {pos p2 p3 p4 : Pos}
/-- list(range(n)) -/
def tListRange (te : TE) : TE := fun σ H Q => te σ H fun x H1 => ∃ j : Nat, [x] = [V.int j] ∧ j ≤ 10000 ∧ ∀ l, H1 l = none → Q (.ref l) (upd H1 l (.lst (((List.range j).map (fun (i : Nat) => (i : Int))).map V.int)))
end
end L2

set_option Elab.async false
set_option linter.all false
set_option maxRecDepth 100000
set_option exponentiation.threshold 2000
/-! texts: ''.join(xs), sorted(xs) -/
namespace L2
open PySem PySem.Spec PyProof.Rows
theorem strs_of : ∀ {ts : List Str} {us : List Value}, Vals (ts.map V.str) us → ∃ l : List (Str × Tok), strValues l = us ∧ l.map (·.1) = ts
  | [], _, h => by cases h; exact ⟨[], rfl, rfl⟩
  | x :: ts, _, h => by
    rw [List.map_cons] at h
    cases h with
    | cons r h =>
      obtain ⟨t, rfl⟩ := r
      obtain ⟨l, h1, h2⟩ := strs_of h
      exact ⟨(x, t) :: l, by rw [← h1]; rfl, by rw [← h2]; rfl⟩
theorem strsAre_of : ∀ {ts : List Str} {us : List Value}, Vals (ts.map V.str) us → StrsAre us ts
  | [], _, h => by cases h; exact .nil
  | x :: ts, _, h => by
    rw [List.map_cons] at h
    cases h with
    | cons r h =>
      obtain ⟨t, rfl⟩ := r
      exact .cons _ _ (strsAre_of h)
theorem vals_of_strs : ∀ {us : List Value} {ts : List Str}, StrsAre us ts → Vals (ts.map V.str) us
  | _, _, .nil => .nil
  | _, _, .cons n t h => .cons ⟨t, rfl⟩ (vals_of_strs h)
section
variable {X : Cx}
/-- x.join(xs), xs a list of texts -/
def rJoin (K : PySem.W.Frag) : V → List V → Hp → VK → Prop := fun x vs H Q => ∃ (y : Str) (a : Addr) (ts : List Str), x = .str y ∧ vs = [.ref a] ∧ SqL K H a (ts.map V.str) ∧ JoinOk y ts = true ∧ Q (.str (Txt.join y ts)) H
theorem mt_join : MtM X "str.join" (rJoin X.K) := by
  intro pins s σ H x vs v us Q I rx rv h
  obtain ⟨y, a, ts, rfl, rfl, hq, hok, q⟩ := h
  obtain ⟨t, rfl⟩ := rx
  obtain ⟨u, rfl, ru⟩ := rv.one
  cases ru
  obtain ⟨its, r, ht, hz⟩ := I.list hq
  obtain ⟨l, rfl, rfl⟩ := strs_of r
  unfold JoinOk at hok
  rw [Bool.not_eq_true'] at hok
  refine call_meets F.slot_str_join (typeIs_str _ _ _) F.entry_str_join (F.args_str_join_2 _ _) (meets_str_join_list y t a l hok) ⟨ht.isList, post_join l ⟨joinFit_length hok, fun t' k => ?_⟩⟩
  exact ⟨.str _, H, I.kept (t' := k) fun b o e => e, ⟨t', rfl⟩, q⟩
/-- sorted(xs) of a list of texts, fewer than 64 -/
def rSortS (K : PySem.W.Frag) : List V → Hp → VK → Prop := fun xs H Q => ∃ (a : Addr) (ns : List Str), xs = [.ref a] ∧ SqL K H a (ns.map V.str) ∧ ns.length < 64 ∧
  ∀ (p : Addr) (ms : List Str), ms.Perm ns → sortedS ms = true → H p = none → Q (.ref p) (upd H p (.lst (ms.map V.str)))
end
end L2

set_option Elab.async false
set_option linter.all false
set_option maxRecDepth 100000
set_option exponentiation.threshold 2000
/-! sets of texts: made of a list, then gone through in whatever order -/
namespace L2
open PySem PySem.Spec PyProof.Rows
theorem or_led (t : SetTable) (n : Nat) : (t.orStandIn n).led = t.led := by unfold SetTable.orStandIn; split <;> rfl
theorem or_plain (t : SetTable) (n : Nat) (h : t.plain = false) : (t.orStandIn n).plain = false := by
  unfold SetTable.orStandIn
  split
  · exact h
  · rfl
theorem lay_led (t : SetTable) (es : Array (Int × Value)) (h : Int) (x : Value) : (layNew t es h x).2.1.led = t.led := by
  unfold layNew
  split
  · exact (or_led _ _).trans rfl
  · rfl
theorem lay_plain (t : SetTable) (es : Array (Int × Value)) (h : Int) (x : Value) : t.plain = false → (layNew t es h x).2.1.plain = false := by
  intro hp
  unfold layNew
  split
  · exact or_plain _ _ hp
  · rfl
theorem laid_of {mask finger moves : Nat} {led plain : Bool} {hs : Array Int} {t : SetTable} {o : Array Nat} (h : SetTable.laid mask finger moves led plain hs = some (t, o)) : t.led = led ∧ t.plain = plain := by
  unfold SetTable.laid at h
  cases h1 : SetTable.layClean mask hs with
  | none => rw [h1] at h; cases h
  | some ow =>
    rw [h1] at h
    simp only [Option.bind_eq_bind, Option.bind_some, Option.pure_def, Option.some.injEq, Prod.mk.injEq] at h
    rw [← h.1]
    exact ⟨rfl, rfl⟩
theorem relay_led (t : SetTable) (es : Array (Int × Value)) (n : Nat) : (relayAll t es n).2.1.led = t.led := by
  unfold relayAll
  split
  · rename_i t' o h
    dsimp only
    split
    · exact (laid_of h).1
    · rfl
  · rfl
theorem relay_plain (t : SetTable) (es : Array (Int × Value)) (n : Nat) (hp : t.plain = false) : (relayAll t es n).2.1.plain = false := by
  unfold relayAll
  split
  · rename_i t' o h
    dsimp only
    split
    · rw [← hp]; exact (laid_of h).2
    · rfl
  · rfl
/-- whether the world tells the order of sets by the text of the program -/
def byTx (w : World) : Bool := w.params.followText "set-order"
/-- a set of these texts, none twice -/
structure TxSet (prog : Program) (w : World) (h : Heap) (a : Addr) (ks : List Str) : Prop where
  at' : ∃ (es : Array (Int × Value)) (ep : Nat) (t : SetTable), h.get? a = some { cls := .type "set", dict := none, data := .set es ep t } ∧ ElemsOf (strKind prog w) es.toList ∧
    StrsAre (es.toList.map (·.2)) ks ∧ t.fits es.size = true ∧ t.led = !byTx w ∧ (es.size = 0 ∨ t.plain = false)
  nodup : ks.Nodup
  few : ks.length < scanBound
theorem strsAre_len : ∀ {vs : List Value} {ks : List Str}, StrsAre vs ks → vs.length = ks.length
  | _, _, .nil => rfl
  | _, _, .cons _ _ h => by rw [List.length_cons, List.length_cons, strsAre_len h]
theorem strsAre_app : ∀ {vs us : List Value} {ks js : List Str}, StrsAre vs ks → StrsAre us js → StrsAre (vs ++ us) (ks ++ js)
  | _, _, _, _, .nil, h => h
  | _, _, _, _, .cons _ _ h', h => .cons _ _ (strsAre_app h' h)
theorem strsAre_perm {vs us : List Value} (p : us.Perm vs) : ∀ {ks : List Str}, StrsAre vs ks → ∃ js, StrsAre us js ∧ js.Perm ks := by
  induction p with
  | nil => intro ks h; exact ⟨ks, h, .refl _⟩
  | cons x p ih =>
    intro ks h
    cases h with
    | cons y t h =>
      obtain ⟨js, h1, h2⟩ := ih h
      exact ⟨y :: js, .cons y t h1, h2.cons _⟩
  | swap x y l =>
    intro ks h
    cases h with
    | cons y t h =>
      cases h with
      | cons y2 t2 h => exact ⟨y2 :: y :: _, .cons _ _ (.cons _ _ h), .swap _ _ _⟩
  | trans p1 p2 ih1 ih2 =>
    intro ks h
    obtain ⟨js, h1, h2⟩ := ih2 h
    obtain ⟨is, h3, h4⟩ := ih1 h1
    exact ⟨is, h3, h4.trans h2⟩
theorem strsAre_mem : ∀ {vs : List Value} {ks : List Str}, StrsAre vs ks → ∀ k, k ∈ ks ↔ ∃ t, Value.str k t ∈ vs
  | _, _, .nil, k => by simp
  | _, _, .cons y t h, k => by
    rw [List.mem_cons, strsAre_mem h k]
    constructor
    · rintro (rfl | ⟨u, hu⟩)
      · exact ⟨t, .head _⟩
      · exact ⟨u, .tail _ hu⟩
    · rintro ⟨u, hu⟩
      cases hu with
      | head => exact .inl rfl
      | tail _ hu => exact .inr ⟨u, hu⟩
theorem strK_is {prog : Program} {w : World} (k : Str) (t : Tok) : (strKind prog w).is k (.str k t) = true := by
  show Value.isStrOf k (.str k t) = true
  simp [Value.isStrOf]
theorem put_set (h : Heap) (a : Addr) (es es' : Array (Int × Value)) (ep : Nat) (t t' : SetTable) (ho : h.get? a = some { cls := .type "set", dict := none, data := .set es ep t }) :
    (h.update a (Obj.putSet es' t')).get? a = some { cls := .type "set", dict := none, data := .set es' (ep + 1) t' } := by
  have := Heap.get?_update_self (Obj.putSet es' t') ho (by rw [putSet_of es' t' (o := { cls := .type "set", dict := none, data := .set es ep t }) rfl]; rfl)
  rw [putSet_of es' t' (o := { cls := .type "set", dict := none, data := .set es ep t }) rfl] at this
  exact this
section
variable {prog : Program} {w : World} {A : Around} {E : Value → Shared → Prop} {s : Shared}
/-- one text more -/
theorem tset_add {a : Addr} {ks : List Str} {k : Str} {tk : Tok} {Q : Bool → Shared → Prop} (hS : TxSet prog w s.heap a ks) (hroom : ks.length + 1 < scanBound)
    (h : ∀ h' ks', Heap.SameBut a s.heap h' → TxSet prog w h' a ks' → ks'.length ≤ ks.length + 1 → (∀ x, x ∈ ks' ↔ x ∈ ks ∨ x = k) → ∀ b, Q b { s with heap := h' }) :
    wpAny (model prog w) A (setAddHashed a (.str k tk) ((strKind prog w).hash k)) Q E s := by
  obtain ⟨⟨es, ep, t, ho, hel, hks, hf, hled, hpl⟩, hnd, hfew⟩ := hS
  have hsz : es.size = ks.length := by rw [← strsAre_len hks, List.length_map, Array.length_toList]
  have hb : es.size < scanBound := by rw [hsz]; exact hfew
  have hkey : (strKind prog w).is k (.str k tk) = true := strK_is k tk
  unfold setAddHashed setAddHashedIn
  refine wpAny_holding (wpAny_bind (wpAny_setState_of ho rfl hf ?_))
  dsimp only
  rw [byScan_of (knd := strKind prog w) rfl hb hel]
  simp only [↓reduceIte]
  unfold setAddByScan
  refine wpAny_bind ?_
  refine wpAny_bind (wpAny_rule ?_)
  refine wpAny_bind (wpAny_setScan_of (knd := strKind prog w) hkey ho rfl hf hel ?_)
  have isk : ∀ e ∈ es.toList, (strKind prog w).is k e.2 = true → k ∈ ks := fun e he q => by
    obtain ⟨t', q'⟩ := Value.isStrOf_shape q
    exact (strsAre_mem hks k).mpr ⟨t', by rw [← q']; exact List.mem_map_of_mem he⟩
  cases hr : List.findIdx? (fun e => (strKind prog w).is k e.2) es.toList with
  | some j =>
    dsimp only
    obtain ⟨hj, hpj, _⟩ := List.findIdx?_eq_some_iff_getElem.mp hr
    have hk : k ∈ ks := isk _ (List.getElem_mem hj) hpj
    refine wpAny_pure (wpAny_pure ?_)
    exact h s.heap ks (Heap.SameBut.refl a s.heap) ⟨⟨es, ep, t, ho, hel, hks, hf, hled, hpl⟩, hnd, hfew⟩ (Nat.le_succ _) (fun x => ⟨.inl, fun q => q.elim id fun e => e ▸ hk⟩) _
  | none =>
    dsimp only
    have hk : k ∉ ks := fun hm => by
      obtain ⟨t', ht⟩ := (strsAre_mem hks k).mp hm
      obtain ⟨e, he, q⟩ := List.mem_map.mp ht
      have := List.findIdx?_eq_none_iff.mp hr e he
      rw [q, strK_is] at this
      cases this
    have hgw : ∀ (b : Bool) {s₁ : Shared} {Q' : Unit → Shared → Prop}, Q' () s₁ → wpAny (model prog w) A (match b with | true => rule "set.scan.the-table-gave-way" | false => pure ()) Q' E s₁ :=
      fun b s₁ Q' hq => by cases b <;> first | exact wpAny_pure hq | exact wpAny_rule hq
    have hperm := layNew_perm t es ((strKind prog w).hash k) (.str k tk)
    have hfits := layNew_fits t es ((strKind prog w).hash k) (.str k tk)
    have hl1 := lay_led t es ((strKind prog w).hash k) (.str k tk)
    have hp1 := lay_plain t es ((strKind prog w).hash k) (.str k tk)
    generalize hL : layNew t es ((strKind prog w).hash k) (.str k tk) = L at hperm hfits hl1 hp1 ⊢
    obtain ⟨es1, t1, wasDummy, gave⟩ := L
    dsimp only at hperm hfits hl1 hp1 ⊢
    rw [Array.toList_push] at hperm
    have hel1 : ElemsOf (strKind prog w) es1.toList := (hel.push hkey rfl).perm hperm
    have h0 : StrsAre ((es.toList ++ [((strKind prog w).hash k, Value.str k tk)]).map (·.2)) (ks ++ [k]) := by
      rw [List.map_append]
      exact strsAre_app hks (.cons k tk .nil)
    obtain ⟨k1, hk1, hkp1⟩ := strsAre_perm (hperm.map (·.2)) h0
    have hsz1 : es1.size = ks.length + 1 := by rw [← Array.length_toList, hperm.length_eq, List.length_append, Array.length_toList, hsz]; rfl
    have nd0 : (ks ++ [k]).Nodup := by
      rw [List.nodup_append]
      exact ⟨hnd, by simp, fun x hx y hy => by rw [List.mem_singleton] at hy; subst hy; exact fun e => hk (e ▸ hx)⟩
    have fin : ∀ (h' : Heap) (es2 : Array (Int × Value)) (ep2 : Nat) (t2 : SetTable), Heap.SameBut a s.heap h' → h'.get? a = some { cls := .type "set", dict := none, data := .set es2 ep2 t2 } → es2.toList.Perm es1.toList → t2.fits es2.size = true →
        t2.led = t.led → t2.plain = false → ∀ b, Q b { s with heap := h' } := fun h' es2 ep2 t2 sb ho2 p2 f2 l2 pl2 b => by
      obtain ⟨k2, hk2, hkp2⟩ := strsAre_perm (p2.map (·.2)) hk1
      have hp : k2.Perm (ks ++ [k]) := hkp2.trans hkp1
      have hlen : k2.length = ks.length + 1 := by rw [hp.length_eq, List.length_append]; rfl
      refine h h' k2 sb ⟨⟨es2, ep2, t2, ho2, hel1.perm p2, hk2, f2, l2.trans hled, .inr pl2⟩, hp.nodup_iff.mpr nd0, by omega⟩ (by omega) (fun x => ?_) b
      rw [hp.mem_iff, List.mem_append, List.mem_singleton]
    refine wpAny_bind (hgw _ ?_)
    have tail : ∀ (t2 : SetTable), t2.fits es1.size = true → t2.led = t.led → t2.plain = false → ∀ {R : Option Bool → Shared → Prop}, (∀ h', (∀ b, Q b { s with heap := h' }) → R (some true) { s with heap := h' }) →
        wpAny (model prog w) A (do
          storeSet a es1 t2
          if (!wasDummy && t2.tooFull) = true then do
              (match (relayAll t2 es1 (SetTable.grown es1.size)).2.2 with | true => rule "set.scan.the-table-gave-way" | false => pure ())
              storeSet a (relayAll t2 es1 (SetTable.grown es1.size)).1 (relayAll t2 es1 (SetTable.grown es1.size)).2.1
              pure (some true)
            else pure (some true)) R E s := by
      intro t2 f2 l2 pl2 R hR
      refine wpAny_bind (wpAny_storeSet_of ho rfl ?_ (fits_of_scanBound (by omega)))
      have ho1 := put_set s.heap a es es1 ep t t2 ho
      have sb1 := Heap.SameBut.update s.heap a (Obj.putSet es1 t2)
      split
      · have hp := relayAll_perm t2 es1 (SetTable.grown es1.size)
        have hfr := relayAll_fits t2 es1 (SetTable.grown es1.size)
        have hl2 := relay_led t2 es1 (SetTable.grown es1.size)
        have hp2 := relay_plain t2 es1 (SetTable.grown es1.size) pl2
        generalize hRl : relayAll t2 es1 (SetTable.grown es1.size) = Rl at hp hfr hl2 hp2 ⊢
        obtain ⟨es2, t3, gave2⟩ := Rl
        dsimp only at hp hfr hl2 hp2 ⊢
        have hs2 : es2.size = es1.size := by rw [← Array.length_toList, hp.length_eq, Array.length_toList]
        refine wpAny_bind (hgw _ ?_)
        refine wpAny_bind (wpAny_storeSet_of ho1 rfl ?_ (fits_of_scanBound (by omega)))
        exact wpAny_pure (hR _ (fin _ es2 _ t3 (sb1.trans (Heap.SameBut.update _ a _)) (put_set _ a es1 es2 (ep + 1) t2 t3 ho1) hp hfr (hl2.trans l2) hp2))
      · exact wpAny_pure (hR _ (fin _ es1 _ t2 sb1 ho1 (.refl _) f2 l2 pl2))
    split
    · refine wpAny_bind ?_
      rw [hashByValue_scannable 8 (x := .str k tk) rfl]
      refine wpAny_pure ?_
      exact tail { t1 with plain := false } (SetTable.fits_plain_off hfits) hl1 rfl fun h' q => wpAny_pure (q _)
    · rename_i hnp
      refine wpAny_bind (wpAny_pure ?_)
      simp only [↓reduceIte]
      exact tail t1 hfits hl1 (by simpa using hnp) fun h' q => wpAny_pure (q _)
end
end L2

set_option Elab.async false
set_option linter.all false
set_option maxRecDepth 100000
set_option exponentiation.threshold 2000
/-! set(xs), xs a list of texts -/
namespace L2
open PySem PySem.Spec PyProof.Rows
theorem TxSet.kept {prog : Program} {w : World} {h h' : Heap} {a : Addr} {ks : List Str} (T : TxSet prog w h a ks) (k : ∀ o, h.get? a = some o → h'.get? a = some o) : TxSet prog w h' a ks := by
  obtain ⟨⟨es, ep, t, ho, r⟩, b, c⟩ := T
  exact ⟨⟨es, ep, t, k _ ho, r⟩, b, c⟩
theorem strs_at : ∀ {vs : List Value} {ts : List Str}, StrsAre vs ts → ∀ (i : Nat) (v : Value), vs[i]? = some v → ∃ x t, v = .str x t ∧ ts[i]? = some x
  | _, _, .nil, i, v, h => by simp at h
  | _, _, .cons y t hr, 0, v, h => by simp at h; exact ⟨y, t, h.symm, rfl⟩
  | _, _, .cons y t hr, i + 1, v, h => by
    rw [List.getElem?_cons_succ] at h
    obtain ⟨x, t', e, e2⟩ := strs_at hr i v h
    exact ⟨x, t', e, by rw [List.getElem?_cons_succ]; exact e2⟩
section
variable {prog : Program} {w : World} {A : Around} {R : Result → Shared → Prop} {I : Addr} {fp wr : List Addr} {G : Array GenState → Array GenState → Prop} {P : Nat → Value → Prop} {St : Nat → Shared → Prop}
theorem tset_loop (ts : List Str) (W : WalksS prog w A.in1 I fp wr G ts.length P St) (S : Addr) (hSf : S ∉ fp)
    (hval : ∀ i v, P i v → ∃ x t, v = .str x t ∧ ts[i]? = some x) (hb : ts.length + 1 < scanBound) :
    ∀ (k i : Nat) (s : Shared) (ks : List Str), ts.length - i = k → i ≤ ts.length → St i s → TxSet prog w s.heap S ks → ks.length ≤ i → (∀ x, x ∈ ks ↔ x ∈ ts.take i) →
      (∀ s' ks', Moved (S :: wr) G s s' → TxSet prog w s'.heap S ks' → ks'.length ≤ ts.length → (∀ x, x ∈ ks' ↔ x ∈ ts) → R (.ok (.ret .none)) s') →
      codeAny (model prog w) A (.builtin "set.update.loop" ⟨[.ref S, .ref I], []⟩) R s := by
  have hSw : S ∉ wr := fun h => hSf (W.sub _ h)
  have hsub : ∀ b ∈ wr, b ∈ S :: wr := fun b hb => List.mem_cons_of_mem _ hb
  intro k
  induction k with
  | zero =>
    intro i s ks hk hi hst hS hl hm0 hR
    have hin : i = ts.length := by omega
    subst hin
    refine codeAny_builtin PyProof.Rows.F.entry_set_update_loop ?_
    rw [Around.under_plainId PyProof.Rows.F.plain_set_update_loop _]
    show wpAny _ A.in1 (pyNext (.ref I) >>= _) _ _ s
    refine wpAny_bind (W.done s _ _ hst fun s' hm => ?_)
    show wpAny _ A.in1 (ret Value.none) _ _ s'
    exact wpAny_pure (hR s' ks (hm.mono hsub) (hS.kept fun o e => hm.heap S _ hSw e) hl (fun x => by rw [hm0, List.take_length]))
  | succ k ih =>
    intro i s ks hk hi hst hS hl hm0 hR
    have hlt : i < ts.length := by omega
    refine codeAny_builtin PyProof.Rows.F.entry_set_update_loop ?_
    rw [Around.under_plainId PyProof.Rows.F.plain_set_update_loop _]
    show wpAny _ A.in1 (pyNext (.ref I) >>= _) _ _ s
    refine wpAny_bind (W.item i s _ _ hlt hst fun v s' hP hst' hm => ?_)
    obtain ⟨x, t, rfl, hx⟩ := hval i v hP
    have hS' : TxSet prog w s'.heap S ks := hS.kept fun o e => hm.heap S _ hSw e
    show wpAny _ A.in1 (holding [Value.str x t] (setAdd S (.str x t)) >>= _) _ _ s'
    refine wpAny_bind (wpAny_holding ?_)
    unfold setAdd
    refine wpAny_holding ?_
    refine wpAny_bind ((strKind prog w).pyHash (k := x) (strK_is x t) ?_)
    refine tset_add (s := { s' with toks := s'.toks + 1 }) hS' (by omega) fun h' ks' hsb hS2 hl2 hm2 b => ?_
    refine wpAny_pure ⟨plainId_quiet PyProof.Rows.F.plain_set_update_loop _, ih (i + 1) _ ks' (by omega) hlt (W.frame _ s' _ _ hst' (Nat.le_succ _) fun b hb o e => ?_) hS2 (by omega) (fun y => ?_) fun s'' k2 hm'' hS'' => ?_⟩
    · rw [hsb.2 b (fun h : b = S => hSf (by rw [← h]; exact hb))]; exact e
    · rw [hm2, hm0, List.take_succ, hx]
      simp
    · refine hR s'' k2 (Moved.trans W.gtrans ((hm.mono hsub).then_heap (Nat.le_succ _) fun b o hb e => ?_) hm'') hS''
      rw [hsb.2 b (fun h : b = S => hb (by rw [h]; exact List.mem_cons_self))]; exact e
end
section
variable {prog : Program} {w : World} {A : Around} {E : Value → Shared → Prop} {s : Shared}
theorem code_setnew (a : Value) {Q₁ : Value → Shared → Prop}
    (h : Q₁ (.ref s.heap.objs.size) { s with heap := s.heap.push { cls := .type "set", dict := none, data := .set #[] 0 (.fresh 0 0 (!byTx w)) } }) :
    codeAny (model prog w) A (.call (.builtin "set.__new__") ⟨[.type "set", a], []⟩) (wants Q₁ E) s := by
  refine codeAny_of_tree ?_
  show wpAny _ A.in1 (do checkBuiltinCall "set.__new__" ⟨[.type "set", a], []⟩; again (.builtin "set.__new__" ⟨[.type "set", a], []⟩)) _ _ s
  refine wpAny_bind (wpAny_of_eq (PySem.F.newCall_set_1 a) (wpAny_pure ⟨plainId_quiet PySem.F.plain_set_new _, codeAny_builtin PySem.F.entry_set_new ?_⟩))
  rw [Around.under_plainId PySem.F.plain_set_new _]
  unfold Builtin.«set.__new__» Builtin.Frozenset.newClass
  have hsub := sub_set_self
  obtain ⟨hp, g, d, tk, os⟩ := s
  dsimp only
  wp_walk
  refine wpAny_askSetting (wpAny_pure ?_)
  dsimp only
  simp only [newObj]
  refine wpAny_bind (wpAny_alloc (wpAny_pure ?_))
  exact wpAny_pure h
theorem tset_fresh {h : Heap} {a : Addr} (e : h.get? a = some { cls := .type "set", dict := none, data := .set #[] 0 (.fresh 0 0 (!byTx w)) }) : TxSet prog w h a [] :=
  ⟨⟨#[], 0, _, e, fun e he => by simp at he, .nil, rfl, rfl, .inl rfl⟩, List.nodup_nil, by decide⟩
end
section
variable {prog : Program} {w : World} {A : Around} {E : Value → Shared → Prop} {s : Shared}
set_option maxHeartbeats 3200000 in
theorem call_set_strs {l : Addr} {items : Array Value} {ts : List Str} {Q : Value → Shared → Prop}
    (hh : A.handled = none) (hl : s.heap.IsList l items) (hi : StrsAre items.toList ts) (hb : ts.length + 1 < scanBound)
    (h : ∀ (h' : Heap) (tk : Nat) (ks : List Str), TxSet prog w h' s.heap.objs.size ks → ks.length ≤ ts.length → (∀ x, x ∈ ks ↔ x ∈ ts) →
      (∀ b o, b < s.heap.objs.size → s.heap.get? b = some o → h'.get? b = some o) → Q (.ref s.heap.objs.size) { s with heap := h', toks := tk }) :
    wpAny (model prog w) A (call (.type "set") [.ref l]) Q E s := by
  have hsz : items.size = ts.length := by rw [← Array.length_toList]; exact strsAre_len hi
  obtain ⟨c, tl, hmro⟩ := PySem.F.called_set.mro
  have hmade := PySem.F.called_set.made
  have hsub := PySem.F.called_set.sub
  refine wpAny_call (codeAny_of_tree ?_)
  show wpAny _ _ (callAny (.type "set") _) _ _ _
  refine wpAny_pure ⟨Code.quiet_builtin _ (by decide +kernel), codeAny_builtin PySem.F.entry_type_call ?_⟩
  rw [Around.under_plain (weight_type_call_type "set" [.ref l] []) rfl]
  have h1 := PySem.F.called_set.notType
  have h2 := PySem.F.called_set.canCreate
  have hct := PySem.F.typeCall_set_1 (.ref l)
  repeat (any_goals (first | assumption | wp_step))
  refine codeAny_mono (code_setnew (.ref l) (E := E) (Q₁ := fun obj s₁ => obj = .ref s.heap.objs.size ∧ s₁ = { s with heap := s.heap.push { cls := .type "set", dict := none, data := .set #[] 0 (.fresh 0 0 (!byTx w)) } }) ⟨rfl, rfl⟩) fun r s₁ hr => ?_
  cases r with
  | error e => exact hr
  | ok fl =>
    cases fl with
    | ret obj =>
      obtain ⟨rfl, rfl⟩ := hr
      have hS : (s.heap.push { cls := .type "set", dict := none, data := .set #[] 0 (.fresh 0 0 (!byTx w)) }).get? s.heap.objs.size = some { cls := .type "set", dict := none, data := .set #[] 0 (.fresh 0 0 (!byTx w)) } := Heap.get?_push_size _ rfl
      have hT : Shared.TypeIs { s with heap := s.heap.push { cls := .type "set", dict := none, data := .set #[] 0 (.fresh 0 0 (!byTx w)) } } (.ref s.heap.objs.size) "set" := ⟨_, hS, rfl⟩
      have hli := PySem.F.called_set.init.lookup
      have hbi := PySem.F.called_set.init.bind (.ref s.heap.objs.size)
      repeat (any_goals (first | assumption | wp_step))
      refine codeAny_mono (codeAny_call_builtin (R := wants (fun r s₂ => r = .none ∧ ∃ h' tk ks, s₂ = { s with heap := h', toks := tk } ∧ TxSet prog w h' s.heap.objs.size ks ∧ ks.length ≤ ts.length ∧ (∀ x, x ∈ ks ↔ x ∈ ts) ∧
          (∀ b o, b < s.heap.objs.size → s.heap.get? b = some o → h'.get? b = some o)) E) PySem.F.called_set.init.plain PySem.F.entry_set_init (check_set_init_1 hT ?_)) fun r₂ s₂ hr₂ => ?_
      · obtain ⟨ol, hol, hcl, nl, hdl⟩ := hl
        obtain ⟨ocls, odict, odata, oslots⟩ := ol
        simp only at hcl hdl
        subst hcl; subst hdl
        have hol' : (s.heap.push { cls := .type "set", dict := none, data := .set #[] 0 (.fresh 0 0 (!byTx w)) }).get? l = some { cls := .type "list", dict := odict, data := .seq items nl, slots := oslots } := Heap.get?_push_of_some _ hol
        have hsls := PySem.F.sub_list_set
        have hslf := PySem.F.sub_list_frozenset
        have hne : (Value.type "list" == Value.type "dict") = false := by decide
        have hl1 : (s.heap.push { cls := .type "set", dict := none, data := .set #[] 0 (.fresh 0 0 (!byTx w)) }).IsList l items := ⟨_, hol', rfl, nl, rfl⟩
        unfold Builtin.«set.__init__» noKeywords Builtin.Frozenset.updateFrom
        generalize hPI : pyIter = PI
        wp_walk
        subst hPI
        refine wpAny_pyIter_list hl1 ?_
        refine wpAny_bind (wpAny_runValue ?_)
        have hlS : l < s.heap.objs.size := Heap.lt_size hol
        have hh3 : A.in1.in1.in1.handled = none := by simp [hh]
        have hneI : l ≠ (s.heap.push { cls := .type "set", dict := none, data := .set #[] 0 (.fresh 0 0 (!byTx w)) }).objs.size := by
          rw [Heap.size_push]; exact Nat.ne_of_lt (Nat.lt_succ_of_lt hlS)
        have hSf : s.heap.objs.size ∉ [(s.heap.push { cls := .type "set", dict := none, data := .set #[] 0 (.fresh 0 0 (!byTx w)) }).objs.size, l] := by
          rw [Heap.size_push]; simp only [List.mem_cons, List.mem_singleton, List.not_mem_nil, or_false, not_or]
          exact ⟨Nat.ne_of_lt (Nat.lt_succ_self _), Nat.ne_of_gt hlS⟩
        have hval : ∀ (i : Nat) (v : Value), items[i]? = some v → ∃ x t, v = .str x t ∧ ts[i]? = some x := fun i v hv =>
          strs_at hi i v (by rw [Array.getElem?_toList]; exact hv)
        have W := (Walks.list (prog := prog) (w := w) hh3 (s.heap.push { cls := .type "set", dict := none, data := .set #[] 0 (.fresh 0 0 (!byTx w)) }).objs.size l hneI items).toS
        rw [hsz] at W
        refine tset_loop ts W s.heap.objs.size hSf hval hb (ts.length - 0) 0 _ [] (by omega) (Nat.zero_le _)
          ⟨⟨_, Heap.get?_push_size _ rfl, rfl, rfl⟩, (hl1.push _)⟩ (tset_fresh (Heap.get?_push_of_some _ hS)) (Nat.le_refl _) (fun x => by simp) ?hR
        case hR =>
          intro s' ks hm hS' hlk hmk
          obtain ⟨h', g', d', tk', os'⟩ := s'
          have eg : g' = s.gens := hm.gens
          have ed : d' = s.drawn := hm.drawn
          have eo : os' = s.os := hm.os
          subst eg; subst ed; subst eo
          show wpAny _ _ _ _ _ _
          refine wpAny_pure ?_
          show wpAny _ _ (ret Value.none) _ _ _
          refine wpAny_pure ⟨rfl, h', tk', ks, rfl, hS', hlk, hmk, fun b o hb e => ?_⟩
          have hb1 : b ≠ s.heap.objs.size := Nat.ne_of_lt hb
          have hb2 : b ≠ (s.heap.push { cls := .type "set", dict := none, data := .set #[] 0 (.fresh 0 0 (!byTx w)) }).objs.size := by
            rw [Heap.size_push]; exact Nat.ne_of_lt (Nat.lt_succ_of_lt hb)
          exact hm.heap b o (by simp only [List.mem_cons, List.mem_singleton, List.not_mem_nil, or_false, not_or]; exact ⟨hb1, hb2⟩) (Heap.get?_push_of_some _ (Heap.get?_push_of_some _ e))
      · cases r₂ with
        | error e => exact hr₂
        | ok fl₂ =>
          cases fl₂ with
          | ret r =>
            obtain ⟨rfl, h', tk, ks, rfl, hS', hlk, hmk, hk'⟩ := hr₂
            repeat (any_goals (first | assumption | wp_step))
            exact h _ _ ks hS' hlk hmk hk'
          | _ => exact hr₂.elim
    | _ => exact hr.elim
end
end L2

set_option Elab.async false
set_option linter.all false
set_option maxRecDepth 100000
set_option exponentiation.threshold 2000
/-! going through a set of texts -/
namespace L2
open PySem PySem.Spec PyProof.Rows
theorem wpa_choose {M : Model} {A : Around} {E : Value → Shared → Prop} {s : Shared} {src : Source} {n : Nat} {Q : Nat → Shared → Prop} (hn : 0 < n) (h : ∀ i d', i < n → Q i { s with drawn := d' }) :
    wpAny M A (choose src n) Q E s := fun Γ p hΓ => by
  show Sem.wp M Γ (.choose src n .pure) _ _ p s
  rw [Sem.wp_choose]
  exact ⟨by omega, h _ _ (Nat.mod_lt _ hn)⟩
theorem erase_perm {α : Type} : ∀ {l : List α} {i : Nat} {x : α}, l[i]? = some x → (x :: l.eraseIdx i).Perm l
  | [], i, x, h => by simp at h
  | y :: l, 0, x, h => by simp at h; subst h; exact .refl _
  | y :: l, i + 1, x, h => by
    rw [List.getElem?_cons_succ] at h
    rw [List.eraseIdx_cons_succ]
    exact (List.Perm.swap _ _ _).trans ((erase_perm h).cons _)
theorem wpa_draw {M : Model} {A : Around} {E : Value → Shared → Prop} {α : Type} : ∀ (n : Nat) (xs : List α) (s : Shared) {Q : List α → Shared → Prop}, xs.length ≤ n → (∀ ys d', ys.Perm xs → Q ys { s with drawn := d' }) →
    wpAny M A (drawOrder n xs) Q E s
  | 0, xs, s, Q, hn, h => by
    have : xs = [] := List.length_eq_zero_iff.mp (Nat.le_zero.mp hn)
    subst this
    exact wpAny_pure (h [] s.drawn (.refl _))
  | n + 1, [], s, Q, hn, h => wpAny_pure (h [] s.drawn (.refl _))
  | n + 1, x :: xs, s, Q, hn, h => by
    show wpAny M A (choose .order (x :: xs).length >>= _) Q E s
    refine wpAny_bind (wpa_choose (by simp) fun i d1 hi => ?_)
    have hx : (x :: xs)[i]? = some (x :: xs)[i] := List.getElem?_eq_getElem hi
    rw [hx]
    show wpAny M A (drawOrder n ((x :: xs).eraseIdx i) >>= _) Q E _
    have hl : ((x :: xs).eraseIdx i).length ≤ n := by
      rw [List.length_eraseIdx, if_pos hi]
      simp at hn ⊢
      omega
    refine wpAny_bind (wpa_draw n _ _ hl fun ys d2 hp => wpAny_pure ?_)
    exact h _ d2 ((hp.cons _).trans (erase_perm hx))
theorem pick_go {α : Type} (next : Nat → Nat) : ∀ (n k : Nat) (left : List α) (out : Array α), left.length ≤ n → ((pickOrder.go next n k left out).toList).Perm (out.toList ++ left)
  | 0, k, left, out, h => by
    have : left = [] := List.length_eq_zero_iff.mp (Nat.le_zero.mp h)
    subst this
    simp [pickOrder.go]
  | n + 1, k, left, out, h => by
    unfold pickOrder.go
    split
    · rename_i x hx
      have hlt : next k % left.length < left.length := (List.getElem?_eq_some_iff.mp hx).1
      refine (pick_go next n (k + 1) _ _ ?_).trans ?_
      · rw [List.length_eraseIdx, if_pos hlt]; omega
      · rw [Array.toList_push, List.append_assoc]
        exact List.Perm.append_left _ (erase_perm hx)
    · rename_i hx
      cases left with
      | nil => simp
      | cons y l =>
        have : next k % (y :: l).length < (y :: l).length := Nat.mod_lt _ (by simp)
        rw [List.getElem?_eq_getElem this] at hx
        cases hx
theorem pick_perm {α : Type} (next : Nat → Nat) (xs : Array α) : ((pickOrder next xs).toList).Perm xs.toList := by
  have := pick_go next xs.size 0 xs.toList #[] (by simp)
  simpa [pickOrder] using this
theorem setDrawn_eq (a : Addr) : setDrawn a = (do
    let (es, _, t) ← setState a
    let byText ← setsByText
    return !byText && (!t.plain && decide (es.size > 1))) := rfl
theorem setNext_eq (a : Addr) (slot given epochThen : Nat) : setNext a slot given epochThen = (do
    let (es, epoch, t) ← setState a
    if ← setsByText then
      if epoch != epochThen then unsupported "set_iterator.__next__:elements-changed"
      return ((← setWalk a)[given]?).map fun e => (e.2, slot)
    if (!t.plain && decide (es.size > 1)) then unsupported "set_iterator.__next__:the-table-is-plain-no-more"
    (do if !t.led && !es.isEmpty then unsupported "set:maker-not-led" : Sem Unit)
    let i := SetTable.below t.place slot
    return match es[i]?, t.place[i]? with
      | some (_, x), some j => some (x, j + 1)
      | _, _ => none) := rfl

namespace FS
theorem entry_set_iter : entryFor table "set.__iter__" = some Builtin.«frozenset.__iter__» := entryFor_alias (id' := "frozenset.__iter__") (by kernel_rfl) rfl (by decide +kernel) (by kernel_rfl)
theorem slot_si_next : Slot "set_iterator" "__next__" "set_iterator.__next__" :=
  .of (owner := "set_iterator") (n := "__next__") (by rw [typeLookup_type, builtinLookup_eq_fast]; kernel_rfl) (by decide +kernel) (by decide +kernel) (by decide +kernel)
    (by first | exact .inl (by decide +kernel) | exact .inr (by decide +kernel)) (by rw [isSubtype_type]; kernel_rfl)
theorem entry_si_next : entryFor table "set_iterator.__next__" = some Builtin.«set_iterator.__next__» := entryFor_of_tree (by kernel_rfl)
theorem args_si_next (a : Value) : argsOk "set_iterator.__next__" ⟨[a], []⟩ := by unfold argsOk; kernel_rfl
theorem slot_si_iter : Slot "set_iterator" "__iter__" "set_iterator.__iter__" :=
  .of (owner := "set_iterator") (n := "__iter__") (by rw [typeLookup_type, builtinLookup_eq_fast]; kernel_rfl) (by decide +kernel) (by decide +kernel) (by decide +kernel)
    (by first | exact .inl (by decide +kernel) | exact .inr (by decide +kernel)) (by rw [isSubtype_type]; kernel_rfl)
theorem entry_si_iter : entryFor table "set_iterator.__iter__" = some Builtin.«dict_keyiterator.__iter__» :=
  entryFor_alias (id' := "dict_keyiterator.__iter__") (by kernel_rfl) rfl (by decide +kernel) (by kernel_rfl)
theorem args_si_iter (a : Value) : argsOk "set_iterator.__iter__" ⟨[a], []⟩ := by unfold argsOk; kernel_rfl
end FS
/-- the iterator of a set -/
abbrev IsSetIter (h : Heap) (I a : Addr) (first : Value) (i n ep : Nat) : Prop :=
  h.get? I = some { cls := .type "set_iterator", dict := none, data := .fields #[first, .int i 0, .ref a, .int n 0, .int ep 0] }
/-- the order in which the iterator goes -/
inductive SOrd (w : World) (a : Addr) (es : Array (Int × Value)) (ep : Nat) (t : SetTable) : (Nat → Value) → List Value → List (Addr × Obj) → Prop
  | drawn (T : Addr) (places : List Nat) (h0 : byTx w = false) (hp : places.Perm (List.range es.size)) (h2 : 1 < es.size) :
    SOrd w a es ep t (fun _ => .ref T) (places.filterMap fun p => (es[p]?).map (·.2)) [(T, { cls := .type "tuple", data := .seq (places.map fun (i : Nat) => rawInt i).toArray })]
  | text (h0 : byTx w = true) : SOrd w a es ep t (fun _ => rawInt 0) ((pickOrder (w.params.setOrder a ep) es).toList.map (·.2)) []
  | few (h0 : byTx w = false) (h2 : es.size ≤ 1) : SOrd w a es ep t (fun i => rawInt (if i = 0 then 0 else t.place.getD 0 0 + 1)) (es.toList.map (·.2)) []
theorem fm_range (es : Array (Int × Value)) : ((List.range es.size).filterMap fun p => (es[p]?).map (·.2)) = es.toList.map (·.2) := by
  have := filterMap_getElem?_range es
  rw [← this, List.map_filterMap]
theorem SOrd.perm {w : World} {a : Addr} {es : Array (Int × Value)} {ep : Nat} {t : SetTable} {f : Nat → Value} {vs : List Value} {ob : List (Addr × Obj)} (h : SOrd w a es ep t f vs ob) : vs.Perm (es.toList.map (·.2)) := by
  cases h with
  | drawn T places h0 hp h2 => rw [← fm_range]; exact hp.filterMap _
  | text h0 => exact (pick_perm _ _).map _
  | few h0 h2 => exact .refl _
section
variable {prog : Program} {w : World} {A : Around} {E : Value → Shared → Prop} {s : Shared}
theorem wpa_byText {Q : Bool → Shared → Prop} (h : Q (byTx w) s) : wpAny (model prog w) A setsByText Q E s := by
  unfold setsByText
  exact wpAny_bind (wpAny_askSetting (wpAny_pure h))
/-- iter(a), a a set of texts -/
theorem iter_tset {a : Addr} {es : Array (Int × Value)} {ep : Nat} {t : SetTable} {Q : Value → Shared → Prop} (ho : s.heap.get? a = some { cls := .type "set", dict := none, data := .set es ep t })
    (hf : t.fits es.size = true) (hp : es.size = 0 ∨ t.plain = false) (hz : es.size ≤ sizeLine)
    (hQ : ∀ h' d' I f vs ob, SOrd w a es ep t f vs ob → s.heap.objs.size ≤ I → IsSetIter h' I a (f 0) 0 es.size ep → (∀ p ∈ ob, h'.get? p.1 = some p.2 ∧ s.heap.objs.size ≤ p.1 ∧ p.1 ≠ I) → (∀ b o, s.heap.get? b = some o → h'.get? b = some o) →
      I < h'.objs.size → (∀ p ∈ ob, p.1 < h'.objs.size) → Q (.ref I) { s with heap := h', drawn := d' }) :
    wpAny (model prog w) A (pyIter (.ref a)) Q E s := by
  have hT : s.TypeIs (.ref a) "set" := ⟨_, ho, rfl⟩
  refine wpAny_pyIter_slot hT PySem.F.slot_set_iter (wpAny_call_entry PySem.F.slot_set_iter hT FS.entry_set_iter ?_ (PySem.F.args_set_iter_1 _))
  unfold Builtin.«frozenset.__iter__» Builtin.Frozenset.slot0 Builtin.Frozenset.sizeOf
  refine wpAny_bind (wpAny_bind (m := slotArgs _ _ _) (wpAny_pure (wpAny_pure ?_)))
  refine wpAny_bind (wpAny_bind (wpAny_setEntries_of ho rfl hf (wpAny_pure ?_)))
  dsimp only
  rw [setDrawn_eq]
  refine wpAny_bind (wpAny_bind (wpAny_setState_of ho rfl hf (wpAny_bind (wpa_byText (wpAny_pure ?_)))))
  by_cases hd : (!byTx w && (!t.plain && decide (es.size > 1))) = true
  · rw [if_pos hd]
    have hd' : byTx w = false ∧ 1 < es.size := by
      simp only [Bool.and_eq_true, Bool.not_eq_true', decide_eq_true_eq] at hd
      exact ⟨hd.1, hd.2.2⟩
    refine wpAny_bind (wpa_draw _ _ _ (by simp) fun ys d' hy => ?_)
    refine wpAny_bind (wpAny_newTuple ?_ (by rw [List.length_map, hy.length_eq, List.length_range]; exact hz))
    have ho2 : (s.heap.push { cls := .type "tuple", data := .seq (ys.map fun (i : Nat) => rawInt i).toArray }).get? a = some { cls := .type "set", dict := none, data := .set es ep t } := Heap.get?_push_of_some _ ho
    refine wpAny_bind (wpAny_setEpoch_of (s := { s with drawn := d', heap := s.heap.push { cls := .type "tuple", data := .seq (ys.map fun (i : Nat) => rawInt i).toArray } }) ho2 rfl hf ?_)
    refine wpAny_bind (wpAny_newObj_type (wpAny_pure ⟨_, rfl, "set_iterator", _, ⟨_, Heap.get?_push_size _ rfl, rfl⟩, FS.slot_si_next.lookup, ?_⟩))
    refine hQ _ d' _ _ _ _ (.drawn s.heap.objs.size ys hd'.1 hy hd'.2) ?_ (Heap.get?_push_size _ rfl) (fun p hp => ?_) (fun b o e => Heap.get?_push_of_some _ (Heap.get?_push_of_some _ e)) ?_ (fun p hp => ?_)
    · rw [Heap.size_push]; exact Nat.le_succ _
    · rw [List.mem_singleton] at hp
      subst hp
      exact ⟨Heap.get?_push_of_some _ (Heap.get?_push_size _ rfl), Nat.le_refl _, by rw [Heap.size_push]; exact Nat.ne_of_lt (Nat.lt_succ_self _)⟩
    · simp only [Heap.size_push]; omega
    · rw [List.mem_singleton] at hp
      subst hp
      show s.heap.objs.size < _
      simp only [Heap.size_push]; omega
  · rw [if_neg hd]
    refine wpAny_bind (wpAny_pure ?_)
    refine wpAny_bind (wpAny_setEpoch_of ho rfl hf ?_)
    refine wpAny_bind (wpAny_newObj_type (wpAny_pure ⟨_, rfl, "set_iterator", _, ⟨_, Heap.get?_push_size _ rfl, rfl⟩, FS.slot_si_next.lookup, ?_⟩))
    cases hb : byTx w with
    | true =>
      exact hQ _ s.drawn _ _ _ _ (.text hb) (Nat.le_refl _) (Heap.get?_push_size _ rfl) (fun p hp => nomatch hp) (fun b o e => Heap.get?_push_of_some _ e) (by rw [Heap.size_push]; exact Nat.lt_succ_self _) (fun p hp => nomatch hp)
    | false =>
      refine hQ _ s.drawn _ _ _ _ (.few hb ?_) (Nat.le_refl _) (Heap.get?_push_size _ rfl) (fun p hp => nomatch hp) (fun b o e => Heap.get?_push_of_some _ e) (by rw [Heap.size_push]; exact Nat.lt_succ_self _) (fun p hp => nomatch hp)
      rcases hp with h | h
      · omega
      · simp [hb, h] at hd
        exact hd

end
end L2

set_option Elab.async false
set_option linter.all false
set_option maxRecDepth 100000
set_option exponentiation.threshold 2000
namespace L2
open PySem PySem.Spec PyProof.Rows
section
variable {prog : Program} {w : World} {A : Around} {E : Value → Shared → Prop} {s : Shared}

/-- what the walk stands on -/
def SSt (w : World) (I a : Addr) (es : Array (Int × Value)) (ep : Nat) (t : SetTable) (f : Nat → Value) (ob : List (Addr × Obj)) (i : Nat) (h : Heap) : Prop :=
  IsSetIter h I a (f i) i es.size ep ∧ h.get? a = some { cls := .type "set", dict := none, data := .set es ep t } ∧ ∀ p ∈ ob, h.get? p.1 = some p.2
theorem below_one (p : Nat) : SetTable.below #[p] 0 = 0 ∧ SetTable.below #[p] (p + 1) = 1 := by
  constructor
  · simp [SetTable.below, SetTable.below.go]
  · simp [SetTable.below, SetTable.below.go]
theorem setIt_upd {h : Heap} {I a : Addr} {first x : Value} {i n ep k : Nat} (hi : IsSetIter h I a first i n ep) (f : Array Value → Array Value) :
    (h.update I (Obj.mapFields f)).get? I = some { cls := .type "set_iterator", dict := none, data := .fields (f #[first, .int i 0, .ref a, .int n 0, .int ep 0]) } := by
  have := Heap.get?_update_self (Obj.mapFields f) hi rfl
  exact this
set_option maxHeartbeats 1000000 in
theorem next_tset {I a : Addr} {es : Array (Int × Value)} {ep : Nat} {t : SetTable} {f : Nat → Value} {vs : List Value} {ob : List (Addr × Obj)} {i : Nat} {v : Value} {Q : Option Value → Shared → Prop}
    (hO : SOrd w a es ep t f vs ob) (hf : t.fits es.size = true) (hl : t.led = !byTx w) (hne : a ≠ I) (hob : ∀ p ∈ ob, p.1 ≠ I) (hS : SSt w I a es ep t f ob i s.heap) (hv : vs[i]? = some v)
    (hQ : ∀ h', SSt w I a es ep t f ob (i + 1) h' → Heap.SameBut I s.heap h' → Q (some v) { s with heap := h' }) :
    wpAny (model prog w) A (pyNext (.ref I)) Q E s := by
  obtain ⟨hi, ha, hbs⟩ := hS
  have hT : s.TypeIs (.ref I) "set_iterator" := ⟨_, hi, rfl⟩
  unfold pyNext
  refine wpAny_bind (wpAny_attempt (wpAny_callSpecial?_slot (name := Str.ofString "__next__") hT FS.slot_si_next
    (wpAny_call_entry FS.slot_si_next hT FS.entry_si_next ?_ (FS.args_si_next _))))
  unfold Builtin.«set_iterator.__next__»
  refine wpAny_bind (m := slotArgs _ _ _) (wpAny_pure ?_)
  dsimp only
  refine wpAny_bind (wpAny_fieldsOf hi rfl ?_)
  dsimp only
  refine wpAny_bind (wpAny_setEntries_of ha rfl hf ?_)
  rw [if_neg (by simp)]
  have hil : i < vs.length := (List.getElem?_eq_some_iff.mp hv).1
  have fin : ∀ (first : Value) (h' : Heap), Heap.SameBut I s.heap h' → IsSetIter h' I a (f (i + 1)) (i + 1) es.size ep → Q (some v) { s with heap := h' } := fun first h' sb hi' =>
    hQ h' ⟨hi', by rw [sb.2 a hne]; exact ha, fun p hp => by rw [sb.2 p.1 (hob p hp)]; exact hbs p hp⟩ sb
  cases hO with
  | drawn T places h0 hp h2 =>
    dsimp only
    have hTt := hbs _ (List.mem_singleton.mpr rfl)
    refine wpAny_bind (wpAny_seqItems hTt rfl ?_)
    have hpl : places.length = es.size := by rw [hp.length_eq, List.length_range]
    have hall : ∀ p ∈ places, p < es.size := fun p hm => by simpa using hp.mem_iff.mp hm
    have hfm : ∀ (l : List Nat), (∀ p ∈ l, p < es.size) → (l.filterMap fun p => (es[p]?).map (·.2)) = l.map fun p => (es.getD p (0, .none)).2 := by
      intro l
      induction l with
      | nil => intro _; rfl
      | cons q l ih =>
        intro hq
        have hq0 : q < es.size := hq q (by simp)
        have h1 : es[q]? = some es[q] := Array.getElem?_eq_getElem hq0
        rw [List.filterMap_cons, h1, List.map_cons, ← ih fun p hm => hq p (by simp [hm])]
        simp [Array.getD, hq0]
    rw [hfm places hall, List.getElem?_map] at hv
    cases hpi : places[i]? with
    | none => rw [hpi] at hv; cases hv
    | some pl =>
      rw [hpi] at hv
      have hlt : pl < es.size := hall pl (List.mem_of_getElem? hpi)
      have hvv : v = es[pl].2 := by
        have : (es.getD pl (0, .none)).2 = v := Option.some.inj hv
        rw [← this]
        simp [Array.getD, hlt]
      have hpi' : (places.map fun (i : Nat) => rawInt i).toArray[i]? = some (.int pl 0) := by
        rw [List.getElem?_toArray, List.getElem?_map, hpi]; rfl
      show wpAny _ _ (match (places.map fun (i : Nat) => rawInt i).toArray[(i : Int).toNat]? with | some (.int place _) => _ | some _ => _ | none => _) _ _ _
      rw [Int.toNat_natCast, hpi']
      dsimp only
      unfold setNextDrawn
      refine wpAny_bind (wpAny_bind (wpAny_setState_of ha rfl hf ?_))
      dsimp only
      rw [if_neg (by simp)]
      rw [Int.toNat_natCast, Array.getElem?_eq_getElem hlt]
      dsimp only
      refine wpAny_pure ?_
      refine wpAny_bind (wpAny_setField hi rfl (by simp) ?_)
      refine wpAny_pure ⟨_, rfl, wpAny_pure ?_⟩
      rw [← hvv]
      exact fin v _ (Heap.SameBut.update ..) (setIt_upd (x := v) (k := 0) hi _)
  | text h0 =>
    show wpAny _ _ (setNext a 0 (i : Int).toNat (ep : Int).toNat >>= _) _ _ _
    rw [setNext_eq, Int.toNat_natCast, Int.toNat_natCast]
    refine wpAny_bind (wpAny_bind (wpAny_setState_of ha rfl hf (wpAny_bind (wpa_byText ?_))))
    rw [if_pos h0]
    dsimp only
    rw [if_neg (by simp)]
    unfold setWalk
    refine wpAny_bind (wpAny_bind (wpAny_setState_of ha rfl hf (wpAny_bind (wpa_byText ?_))))
    rw [if_pos h0]
    refine wpAny_bind (wpAny_askSetting (wpAny_pure (wpAny_pure ?_)))
    rw [List.getElem?_map, Array.getElem?_toList] at hv
    cases hpk : (pickOrder (w.params.setOrder a ep) es)[i]? with
    | none => rw [hpk] at hv; cases hv
    | some e =>
      rw [hpk] at hv
      show wpAny _ _ (match ((pickOrder (w.params.setOrder a ep) es)[i]?).map fun e => (e.2, 0) with | some (x, next) => _ | none => _) _ _ _
      rw [hpk]
      have hvv : e.2 = v := Option.some.inj hv
      dsimp only [Option.map]
      refine wpAny_bind (wpAny_setField hi rfl (by simp) ?_)
      have hi1 := setIt_upd (x := v) (k := 0) hi (·.setIfInBounds 0 (rawInt (0 : Nat)))
      refine wpAny_bind (wpAny_setField (s := { s with heap := s.heap.update I (Obj.mapFields (·.setIfInBounds 0 (rawInt (0 : Nat)))) }) hi1 rfl (by simp) ?_)
      refine wpAny_pure ⟨_, rfl, wpAny_pure ?_⟩
      rw [hvv]
      refine fin v _ ((Heap.SameBut.update ..).trans (Heap.SameBut.update ..)) ?_
      exact setIt_upd (x := v) (k := 0) (i := i) (first := rawInt 0) (n := es.size) (ep := ep) (a := a) (by exact hi1) _
  | few h0 h2 =>
    have hi0 : i = 0 := by rw [List.length_map, Array.length_toList] at hil; omega
    subst hi0
    have hsz : es.size = 1 := by rw [List.length_map, Array.length_toList] at hil; omega
    show wpAny _ _ (setNext a 0 (0 : Int).toNat (ep : Int).toNat >>= _) _ _ _
    rw [setNext_eq, Int.toNat_natCast]
    refine wpAny_bind (wpAny_bind (wpAny_setState_of ha rfl hf (wpAny_bind (wpa_byText ?_))))
    rw [if_neg (by rw [h0]; simp)]
    dsimp only
    rw [if_neg (by simp [hsz])]
    rw [hl, h0]
    refine wpAny_bind (m := ite _ _ _) ?_
    rw [if_neg (by simp)]
    refine wpAny_pure ?_
    obtain ⟨p, hpp⟩ : ∃ p, t.place = #[p] := by
      have h1 : t.place.size = 1 := by
        simp only [SetTable.fits, Bool.and_eq_true, beq_iff_eq] at hf
        rw [hf.1, hsz]
      generalize t.place = tp at h1
      obtain ⟨pl⟩ := tp
      cases pl with
      | nil => simp at h1
      | cons p r => cases r with
        | nil => exact ⟨p, rfl⟩
        | cons q r => simp at h1
    obtain ⟨⟨eh, ev⟩, hes⟩ : ∃ e, es = #[e] := by
      obtain ⟨el⟩ := es
      cases el with
      | nil => simp at hsz
      | cons p r => cases r with
        | nil => exact ⟨p, rfl⟩
        | cons q r => simp at hsz
    subst hes
    have hvv : ev = v := by simpa using hv
    subst hvv
    rw [hpp, (below_one p).1]
    refine wpAny_pure ?_
    show wpAny _ _ (setField (.ref I) 0 (rawInt ((p + 1 : Nat) : Int)) >>= _) _ _ _
    refine wpAny_bind (wpAny_setField hi rfl (by simp) ?_)
    have hi1 := setIt_upd (x := ev) (k := 0) hi (·.setIfInBounds 0 (rawInt ((p + 1 : Nat) : Int)))
    refine wpAny_bind (wpAny_setField (s := { s with heap := s.heap.update I (Obj.mapFields (·.setIfInBounds 0 (rawInt ((p + 1 : Nat) : Int)))) }) hi1 rfl (by simp) ?_)
    refine wpAny_pure ⟨_, rfl, wpAny_pure ?_⟩
    refine fin ev _ ((Heap.SameBut.update ..).trans (Heap.SameBut.update ..)) ?_
    have := setIt_upd (x := ev) (k := 0) (i := 0) (first := rawInt ((p + 1 : Nat) : Int)) (n := 1) (ep := ep) (a := a) (by exact hi1) (·.setIfInBounds 1 (rawInt ((0 : Nat) + 1 : Int)))
    rw [hpp]
    exact this
end
end L2

set_option Elab.async false
set_option linter.all false
set_option maxRecDepth 100000
set_option exponentiation.threshold 2000
namespace L2
open PySem PySem.Spec PyProof.Rows
section
variable {prog : Program} {w : World} {A : Around} {E : Value → Shared → Prop} {s : Shared}
theorem stop_now {h1 : Heap} {I : Addr} {P : Fin → Shared → Prop} {Q : Option Value → Shared → Prop} (hh : A.handled = none) (sb : Heap.SameBut I s.heap h1) (hQ : ∀ h', Heap.ExtBut I s.heap h' → Q none { s with heap := h' }) :
    wpAny (model prog w) A.in1 (newExc (.type "StopIteration") [] >>= fun x => raiseNew x) P
      (fun e s' => wpAny (model prog w) A (do if ← isInstance e (.type "StopIteration") then pure none else throw e) Q E s') { s with heap := h1 } := by
  refine wpAny_bind ?_
  simp only [newExc, newTuple]
  refine wpAny_bind (wpAny_newObj_type ?_ (by size_fits))
  refine wpAny_bind (m := firstArgMember _ _) (wpAny_of_eq (a := Value.none) (by first | rfl | (simp only [firstArgMember]; rfl)) ?_)
  refine wpAny_newObj_type ?_ (by size_fits)
  simp only [raiseNew]
  refine wpAny_bind (wpAny_handled ?_)
  rw [show A.in1.handled = none from hh]
  refine wpAny_bind (wpAny_pure (wpAny_throw ?_))
  refine wpAny_bind (wpAny_isInstance (T := "StopIteration") (b := true) ⟨_, Heap.get?_push_size _ rfl, rfl⟩ isSubtype_stop ?_)
  exact wpAny_pure (hQ _ ((sb.extBut.push _).push _))
set_option maxHeartbeats 1000000 in
theorem end_tset {I a : Addr} {es : Array (Int × Value)} {ep : Nat} {t : SetTable} {f : Nat → Value} {vs : List Value} {ob : List (Addr × Obj)} {Q : Option Value → Shared → Prop} (hh : A.handled = none)
    (hO : SOrd w a es ep t f vs ob) (hf : t.fits es.size = true) (hl : t.led = !byTx w) (hne : a ≠ I) (hob : ∀ p ∈ ob, p.1 ≠ I) (hS : SSt w I a es ep t f ob es.size s.heap)
    (hQ : ∀ h', Heap.ExtBut I s.heap h' → Q none { s with heap := h' }) :
    wpAny (model prog w) A (pyNext (.ref I)) Q E s := by
  obtain ⟨hi, ha, hbs⟩ := hS
  have hT : s.TypeIs (.ref I) "set_iterator" := ⟨_, hi, rfl⟩
  unfold pyNext
  refine wpAny_bind (wpAny_attempt (wpAny_callSpecial?_slot (name := Str.ofString "__next__") hT FS.slot_si_next
    (wpAny_call_entry FS.slot_si_next hT FS.entry_si_next ?_ (FS.args_si_next _))))
  unfold Builtin.«set_iterator.__next__»
  refine wpAny_bind (m := slotArgs _ _ _) (wpAny_pure ?_)
  dsimp only
  refine wpAny_bind (wpAny_fieldsOf hi rfl ?_)
  dsimp only
  refine wpAny_bind (wpAny_setEntries_of ha rfl hf ?_)
  rw [if_neg (by simp)]
  cases hO with
  | drawn T places h0 hp h2 =>
    dsimp only
    have hTt := hbs _ (List.mem_singleton.mpr rfl)
    refine wpAny_bind (wpAny_seqItems hTt rfl ?_)
    have hpl : places.length = es.size := by rw [hp.length_eq, List.length_range]
    have hpi' : (places.map fun (i : Nat) => rawInt i).toArray[es.size]? = none := by
      rw [List.getElem?_toArray, List.getElem?_map, List.getElem?_eq_none (by omega)]; rfl
    show wpAny _ _ (match (places.map fun (i : Nat) => rawInt i).toArray[(es.size : Int).toNat]? with | some (.int place _) => _ | some _ => _ | none => _) _ _ _
    rw [Int.toNat_natCast, hpi']
    dsimp only
    refine wpAny_bind (wpAny_setField hi rfl (by simp) ?_)
    have hi1 := setIt_upd (x := .none) (k := 0) hi (·.setIfInBounds 0 (rawInt 0))
    refine wpAny_bind (wpAny_setField (s := { s with heap := s.heap.update I (Obj.mapFields (·.setIfInBounds 0 (rawInt 0))) }) hi1 rfl (by simp) ?_)
    exact stop_now (s := s) (I := I) hh ((Heap.SameBut.update ..).trans (Heap.SameBut.update ..)) hQ
  | text h0 =>
    show wpAny _ _ (setNext a 0 (es.size : Int).toNat (ep : Int).toNat >>= _) _ _ _
    rw [setNext_eq, Int.toNat_natCast, Int.toNat_natCast]
    refine wpAny_bind (wpAny_bind (wpAny_setState_of ha rfl hf (wpAny_bind (wpa_byText ?_))))
    rw [if_pos h0]
    dsimp only
    rw [if_neg (by simp)]
    unfold setWalk
    refine wpAny_bind (wpAny_bind (wpAny_setState_of ha rfl hf (wpAny_bind (wpa_byText ?_))))
    rw [if_pos h0]
    refine wpAny_bind (wpAny_askSetting (wpAny_pure (wpAny_pure ?_)))
    have hpk : (pickOrder (w.params.setOrder a ep) es)[es.size]? = none := by
      have h1 := (pick_perm (w.params.setOrder a ep) es).length_eq
      rw [Array.length_toList, Array.length_toList] at h1
      exact Array.getElem?_eq_none (by omega)
    show wpAny _ _ (match ((pickOrder (w.params.setOrder a ep) es)[es.size]?).map fun e => (e.2, 0) with | some (x, next) => _ | none => _) _ _ _
    rw [hpk]
    dsimp only [Option.map]
    refine wpAny_bind (wpAny_setField hi rfl (by simp) ?_)
    exact stop_now (s := s) (I := I) hh (Heap.SameBut.update ..) hQ
  | few h0 h2 =>
    show wpAny _ _ (setNext a (if es.size = 0 then (0 : Int) else (t.place.getD 0 0 : Int) + 1).toNat (es.size : Int).toNat (ep : Int).toNat >>= _) _ _ _
    rw [setNext_eq, Int.toNat_natCast]
    refine wpAny_bind (wpAny_bind (wpAny_setState_of ha rfl hf (wpAny_bind (wpa_byText ?_))))
    rw [if_neg (by rw [h0]; simp)]
    dsimp only
    rw [if_neg (by simp; intro _; omega)]
    rw [hl, h0]
    refine wpAny_bind (m := ite _ _ _) ?_
    rw [if_neg (by simp)]
    refine wpAny_pure ?_
    have hps : t.place.size = es.size := by
      simp only [SetTable.fits, Bool.and_eq_true, beq_iff_eq] at hf
      exact hf.1
    have hnone : es[SetTable.below t.place (if es.size = 0 then (0 : Int) else (t.place.getD 0 0 : Int) + 1).toNat]? = none := by
      generalize t.place = tp at hps
      obtain ⟨pl⟩ := tp
      cases pl with
      | nil =>
        have : es.size = 0 := by simpa using hps.symm
        exact Array.getElem?_eq_none (by omega)
      | cons p r =>
        cases r with
        | nil =>
          have h1 : es.size = 1 := by simpa using hps.symm
          rw [if_neg (by omega)]
          have : ((([p].toArray).getD 0 0 : Nat) : Int) + 1 = ((p + 1 : Nat) : Int) := rfl
          rw [this, Int.toNat_natCast, (below_one p).2]
          exact Array.getElem?_eq_none (by omega)
        | cons q r =>
          have : es.size = r.length + 2 := by simpa using hps.symm
          omega
    rw [hnone]
    refine wpAny_pure ?_
    show wpAny _ _ (setField (.ref I) 2 .none >>= _) _ _ _
    refine wpAny_bind (wpAny_setField hi rfl (by simp) ?_)
    exact stop_now (s := s) (I := I) hh (Heap.SameBut.update ..) hQ
theorem self_tset {I a : Addr} {first : Value} {i n ep : Nat} {Q : Value → Shared → Prop} (hi : IsSetIter s.heap I a first i n ep) (h : Q (.ref I) s) : wpAny (model prog w) A (pyIter (.ref I)) Q E s := by
  have hT : s.TypeIs (.ref I) "set_iterator" := ⟨_, hi, rfl⟩
  refine wpAny_pyIter_slot hT FS.slot_si_iter (wpAny_call_entry FS.slot_si_iter hT FS.entry_si_iter ?_ (FS.args_si_iter _))
  show wpAny _ _ (ret (.ref I)) _ _ s
  exact wpAny_pure ⟨_, rfl, "set_iterator", _, hT, FS.slot_si_next.lookup, h⟩
end
theorem walks_tset {prog : Program} {w : World} {A : Around} {I a : Addr} {es : Array (Int × Value)} {ep : Nat} {t : SetTable} {f : Nat → Value} {vs : List Value} {ob : List (Addr × Obj)} (hh : A.handled = none)
    (hO : SOrd w a es ep t f vs ob) (hf : t.fits es.size = true) (hl : t.led = !byTx w) (hne : a ≠ I) (hob : ∀ p ∈ ob, p.1 ≠ I) :
    Walks prog w A I (I :: a :: ob.map (·.1)) [I] es.size (fun i v => vs[i]? = some v) (SSt w I a es ep t f ob) where
  sub := fun b hb => by simp at hb; simp [hb]
  frame := fun i h h' st hk => ⟨hk I (by simp) _ st.1, hk a (by simp) _ st.2.1, fun p hp => hk p.1 (by simp; exact .inr (.inr ⟨p.2, hp⟩)) _ (st.2.2 p hp)⟩
  item := fun i s Q E hi st hQ => by
    have hlen : vs.length = es.size := by rw [hO.perm.length_eq, List.length_map, Array.length_toList]
    refine next_tset hO hf hl hne hob st (v := vs[i]'(by omega)) (List.getElem?_eq_getElem (by omega)) fun h' st' sb => ?_
    exact hQ _ h' s.toks (List.getElem?_eq_getElem (by omega)) st' fun b o hb e => sb.extBut b o (fun h => hb (by simp [h])) e
  done := fun s Q E st hQ => end_tset hh hO hf hl hne hob st fun h' he' => hQ h' s.toks fun b o hb e => he' b o (fun h => hb (by simp [h])) e
  self := fun _ _ _ _ st hQ => self_tset st.1 hQ
end L2

set_option Elab.async false
set_option linter.all false
set_option maxRecDepth 100000
set_option exponentiation.threshold 2000
namespace L2
open PySem PySem.Spec PyProof.Rows
namespace FS
theorem set_len : typeLookup (.type "set") "__len__" = pure (some (.builtin "set.__len__")) := by rw [typeLookup_type, builtinLookup_eq_fast]; kernel_rfl
theorem split_set_len : splitId "set.__len__" = some ("set", "__len__") := by decide +kernel
end FS
section
variable {prog : Program} {w : World} {A : Around} {E : Value → Shared → Prop} {s : Shared}
theorem hint_tset {a : Addr} {Q : Bool → Shared → Prop} (hT : s.TypeIs (.ref a) "set") (h : Q false s) : wpAny (model prog w) A (Builtin.List.listLengthHint (.ref a)) Q E s := by
  unfold Builtin.List.listLengthHint
  refine wpAny_bind (wpAny_specialOf hT FS.set_len ?_)
  dsimp only
  generalize hid : ("set.__len__" : String) = id0
  rw [show splitId id0 = some ("set", "__len__") from by subst hid; exact FS.split_set_len]
  subst hid
  dsimp only
  refine wpAny_bind (wpAny_isInstance (b := true) hT sub_set_self ?_)
  simp only [Bool.not_true, Bool.false_eq_true, if_false]
  refine wpAny_bind (wpAny_typeOf hT (wpAny_pure h))
set_option maxHeartbeats 1000000 in
theorem collect_tset {a : Addr} {ks : List Str} {Q : List Value → Shared → Prop} (hh : A.handled = none) (T : TxSet prog w s.heap a ks)
    (hQ : ∀ h' d' tk vs js, StrsAre vs js → js.Perm ks → s.heap.objs.size < h'.objs.size → (∀ b o, s.heap.get? b = some o → h'.get? b = some o) → Q vs { s with heap := h', drawn := d', toks := tk }) :
    wpAny (model prog w) A (collect (.ref a)) Q E s := by
  obtain ⟨⟨es, ep, t, ho, hel, hks, hf, hled, hpl⟩, hnd, hfew⟩ := T
  have hsz : es.size = ks.length := by rw [← strsAre_len hks, List.length_map, Array.length_toList]
  have haS : a < s.heap.objs.size := Heap.lt_size ho
  unfold collect
  refine wpAny_bind (wpAny_runValue (codeAny_builtin PySem.F.entry_proto_collect ?_))
  rw [Around.under_plainId PySem.F.plain_proto_collect _]
  show wpAny _ A.in1 (newList [] >>= fun l => again (.builtin "list.__iadd__" ⟨[l, .ref a], []⟩)) _ _ s
  refine wpAny_bind (wpAny_newObj_type ?_)
  refine wpAny_pure ⟨plainId_quiet PySem.F.plain_list_iadd _, codeAny_builtin PySem.F.entry_list_iadd ?_⟩
  rw [Around.under_plainId PySem.F.plain_list_iadd _]
  generalize hh1 : s.heap.push { cls := .type "list", data := .seq ([] : List Value).toArray } = h1
  have hk1 : ∀ b o, s.heap.get? b = some o → h1.get? b = some o := fun b o e => by rw [← hh1]; exact Heap.get?_push_of_some _ e
  have hS1 : h1.get? s.heap.objs.size = some { cls := .type "list", data := .seq ([] : List Value).toArray } := by rw [← hh1]; exact Heap.get?_push_size _ rfl
  have hz1 : s.heap.objs.size < h1.objs.size := Heap.lt_size hS1
  show wpAny _ A.in1 (Builtin.List.listExtendWith (.ref s.heap.objs.size) (.ref a) (.ref s.heap.objs.size)) _ _ { s with heap := h1 }
  unfold Builtin.List.listExtendWith
  have hT1 : Shared.TypeIs { s with heap := h1 } (.ref a) "set" := ⟨_, hk1 _ _ ho, rfl⟩
  refine wpAny_bind (wpAny_typeOf hT1 ?_)
  have e1 : Builtin.List.listSameRef (.ref s.heap.objs.size) (.ref a) = false := by
    unfold Builtin.List.listSameRef
    exact beq_eq_false_iff_ne.mpr (Ne.symm (Nat.ne_of_lt haS))
  rw [if_neg (by rw [e1]; decide)]
  refine wpAny_bind (iter_tset (s := { s with heap := h1 }) (hk1 _ _ ho) hf hpl (by rw [hsz]; exact fits_of_scanBound hfew) fun h2 d2 I f vs ob hO hI hi hob hk2 hI2 hob2 => ?_)
  refine wpAny_bind (wpAny_holding (hint_tset (s := { s with heap := h2, drawn := d2 }) ⟨_, hk2 _ _ (hk1 _ _ ho), rfl⟩ ?_))
  rw [if_pos (by decide)]
  refine wpAny_bind (wpAny_rule ?_)
  have hS2 : h2.get? s.heap.objs.size = some { cls := .type "list", data := .seq ([] : List Value).toArray } := hk2 _ _ hS1
  refine wpAny_bind ?_
  show wpAny _ A.in1 (updateSeq s.heap.objs.size (·.push .none) >>= fun _ => updateSeq s.heap.objs.size (·.pop)) _ _ { s with heap := h2, drawn := d2 }
  refine wpAny_bind (wpAny_updateSeq hS2 rfl ?_)
  have hS3 := Heap.get?_update_self (Obj.mapSeq (·.push Value.none)) hS2 rfl
  refine wpAny_updateSeq hS3 rfl ?_
  have hS4 := Heap.get?_update_self (Obj.mapSeq (·.pop)) hS3 rfl
  have oth : ∀ b o, b ≠ s.heap.objs.size → h2.get? b = some o → ((h2.update s.heap.objs.size (Obj.mapSeq (·.push Value.none))).update s.heap.objs.size (Obj.mapSeq (·.pop))).get? b = some o :=
    fun b o hb e => (Heap.get?_update_other _ _ (Ne.symm hb)).trans ((Heap.get?_update_other _ _ (Ne.symm hb)).trans e)
  have hIne : I ≠ s.heap.objs.size := Ne.symm (Nat.ne_of_lt (Nat.lt_of_lt_of_le hz1 hI))
  have hane : a ≠ I := Nat.ne_of_lt (Nat.lt_of_lt_of_le haS (Nat.le_trans (Nat.le_of_lt hz1) hI))
  have hobne : ∀ p ∈ ob, p.1 ≠ s.heap.objs.size := fun p hp => Ne.symm (Nat.ne_of_lt (Nat.lt_of_lt_of_le hz1 (hob p hp).2.1))
  have W := (walks_tset (prog := prog) (A := A.in1) (by simpa using hh) hO hf hled hane (fun p hp => (hob p hp).2.2)).toS
  have hlen : vs.length = es.size := by rw [hO.perm.length_eq, List.length_map, Array.length_toList]
  obtain ⟨js, hjs, hjp⟩ := strsAre_perm hO.perm hks
  refine wpAny_pure ⟨plainId_quiet PySem.F.plain_extend_loop _, codeAny_extend_loopS W (by rw [hsz]; exact fits_of_scanBound hfew) s.heap.objs.size ?_ _ es.size 0 _ _ _ rfl (Nat.zero_le _)
    ⟨oth _ _ hIne hi, oth _ _ (Nat.ne_of_lt haS) (hk2 _ _ (hk1 _ _ ho)), fun p hp => oth _ _ (hobne p hp) (hob p hp).1⟩ hS4 (ItemsOf.nil _) fun s' acc' c' hm hS' hacc => ?_⟩
  · intro hmem
    rw [List.mem_cons, List.mem_cons, List.mem_map] at hmem
    rcases hmem with h | h | ⟨p, hp, h⟩
    · exact hIne h.symm
    · exact Nat.ne_of_lt haS h.symm
    · exact hobne p hp h
  · show wpAny _ A (load s.heap.objs.size >>= _) _ _ s'
    refine wpAny_bind (wpAny_load hS' ?_)
    have hav : acc'.toList = vs := by
      apply List.ext_getElem?
      intro j
      by_cases hj : j < es.size
      · have hj' : j < acc'.size := by rw [hacc.1]; exact hj
        have h1 : acc'.toList[j]? = some acc'[j] := by rw [Array.getElem?_toList]; exact Array.getElem?_eq_getElem hj'
        rw [h1]
        exact (hacc.2 j _ (Array.getElem?_eq_getElem hj')).symm
      · rw [List.getElem?_eq_none (by rw [Array.length_toList, hacc.1]; omega), List.getElem?_eq_none (by omega)]
    obtain ⟨h', g', d', tk', os'⟩ := s'
    have eg : g' = s.gens := hm.gens
    have ed : d' = d2 := hm.drawn
    have eo : os' = s.os := hm.os
    subst eg; subst ed; subst eo
    refine wpAny_pure ?_
    rw [hav]
    refine hQ h' d' tk' vs js hjs hjp (Heap.lt_size hS') fun b o e => ?_
    have hb : b < s.heap.objs.size := Heap.lt_size e
    refine hm.heap b o ?_ (oth b o (Nat.ne_of_lt hb) (hk2 _ _ (hk1 _ _ e)))
    have h0 : h1.objs.size ≤ I := hI
    simp only [List.mem_cons, List.not_mem_nil, or_false, not_or]
    exact ⟨Nat.ne_of_lt hb, Nat.ne_of_lt (Nat.lt_of_lt_of_le hb (Nat.le_trans (Nat.le_of_lt hz1) hI))⟩
end
end L2

set_option Elab.async false
set_option linter.all false
set_option maxRecDepth 100000
set_option exponentiation.threshold 2000
/-! sorted(set(xs)), xs a list of texts -/
namespace L2
open PySem PySem.Spec PyProof.Rows
section
variable {prog : Program} {w : World} {A : Around} {E : Value → Shared → Prop} {s : Shared}
theorem sorted_tset {a : Addr} {ks : List Str} {Q : Value → Shared → Prop} (hh : A.handled = none) (T : TxSet prog w s.heap a ks) (h64 : ks.length < 64)
    (h : ∀ (p : Addr) (h' : Heap) (d' : Drawn) (tk : Nat) (out : Array Value) (ms : List Str) (e : Nat), StrsAre out.toList ms → ms.Perm ks → sortedS ms = true → s.heap.objs.size ≤ p → h'.get? p = some (seqObj "list" out e) →
      (∀ b o, s.heap.get? b = some o → h'.get? b = some o) → Q (.ref p) { s with heap := h', drawn := d', toks := tk }) :
    wpAny (model prog w) A (call (.builtin "sorted") [.ref a]) Q E s := by
  refine Calls.call_function_entry kind_sorted plain_sorted entry_sorted (args_sorted1 _) ?_
  unfold Builtin.«sorted»
  refine wpAny_bind (m := checkCount "sorted" 1 1 _) (wpAny_pure ?_)
  refine wpAny_bind (collect_tset (by simpa using hh) T fun h1 d1 tk1 vs js hv hp hz hk => ?_)
  have hvl : vs.length = ks.length := by rw [strsAre_len hv, hp.length_eq]
  refine wpAny_bind (wpAny_newList ?_ (by rw [sizeLine_eq]; omega))
  have hoL : (h1.push (seqObj "list" vs.toArray 0)).get? h1.objs.size = some (seqObj "list" vs.toArray 0) := Heap.get?_push_size _ rfl
  show wpAny _ _ (holding _ _ >>= _) _ _ { s with heap := h1.push (seqObj "list" vs.toArray 0), drawn := d1, toks := tk1 }
  refine wpAny_bind (wpAny_holding (wpAny_call_entry slot_list_sort ⟨_, hoL, rfl⟩ entry_list_sort (list_sort_treeK strKind_oneLt hoL hv.keysOf (fun v₁ v₂ rest e => keyKind_strs (by rw [← e]; exact hv)) (by omega) fun st' a1 a2 => ⟨_, rfl, ?_⟩) (args_list_sort _)))
  obtain ⟨ms, m1, m2, m3⟩ := sorted_out_str hv a1 a2
  obtain ⟨e, he⟩ := sortedHeap_at (out := (arrOf st').map (·.2)) hoL
  refine wpAny_pure ⟨_, rfl, h h1.objs.size _ d1 tk1 _ ms e m1 (m2.trans hp) m3 (Nat.le_of_lt hz) he fun b o eb => ?_⟩
  · have hb : b < h1.objs.size := Heap.lt_size (hk b o eb)
    rw [sortedHeap_old (Nat.ne_of_lt hb) (by rw [size_push']; exact Nat.lt_succ_of_lt hb)]
    exact Heap.get?_push_of_some _ (hk b o eb)

end
section
variable {X : Cx} {e : Expr} {te : TE} {pos p2 p3 p4 : Pos}
def tSortSet (K : PySem.W.Frag) (te : TE) : TE := fun σ H Q => te σ H fun x H1 => ∃ (a : Addr) (ts : List Str), [x] = [V.ref a] ∧ SqL K H1 a (ts.map V.str) ∧ ts.length < 64 ∧
  ∀ (p : Addr) (ms : List Str), ms.Nodup → (∀ x, x ∈ ms ↔ x ∈ ts) → ms.length ≤ ts.length → sortedS ms = true → H1 p = none → Q (.ref p) (upd H1 p (.lst (ms.map V.str)))
theorem pe_sortset (hc : X.calm = true) (he : PE X e te) (hg : Gl X "sorted") (hm : X.mg "sorted" = none) (hg2 : Gl X "set") (hm2 : X.mg "set" = none)
    (h1 : starEach [e] X.env = (false, eval e X.env) :: starEach [] X.env := by rfl)
    (h2 : starEach [.Call (.Name "set" p2) [e] [] p3] X.env = (false, eval (.Call (.Name "set" p2) [e] [] p3) X.env) :: starEach [] X.env := by rfl)
    (h3 : (backTo p3 (starEach [] X.env)).any (·.1) = false := by rfl) (h4 : (backTo pos (starEach [] X.env)).any (·.1) = false := by rfl) :
    PE X (.Call (.Name "sorted" p4) [.Call (.Name "set" p2) [e] [] p3] [] pos) (tSortSet X.K te) := by
  intro pins s σ H Q I h
  refine wpAny_Call_Name_kw (ld_blt I hg hm bt_sorted ?_ (by decide) (by decide))
  refine PyProof.Rows.callWith_builtin1 ?_ h2 h4
  rw [h2]
  show wpAny _ _ (spliced ((false, eval (.Call (.Name "set" p2) [e] [] p3) X.env) :: backTo pos (starEach [] X.env))) _ _ s
  refine Calls.spliced_cons ?_
  refine wpAny_Call_Name_kw (ld_blt I hg2 hm2 bt_set ?_ (by decide) (by decide))
  refine PyProof.Rows.callWith_type1 (thn (pa_cons he pa_nil h1 p3 pins s σ H (fun vs H1 => ∃ (a : Addr) (ts : List Str), vs = [.ref a] ∧ SqL X.K H1 a (ts.map V.str) ∧ ts.length < 64 ∧
    ∀ (p : Addr) (ms : List Str), ms.Nodup → (∀ x, x ∈ ms ↔ x ∈ ts) → ms.length ≤ ts.length → sortedS ms = true → H1 p = none → Q (.ref p) (upd H1 p (.lst (ms.map V.str)))) I ?_) fun us s1 ⟨vs, H1, I1, r1, a, ts, hv, hq, hn, q⟩ => ?_) h1 h3
  · exact h
  subst hv
  obtain ⟨u1, rfl, v1⟩ := vals1 r1
  cases v1
  obtain ⟨its, rv, ht, hz⟩ := I1.list hq
  refine call_set_strs (I1.ok.hd hc) ht.isList (ts := ts) (by simpa using strsAre_of rv) (by unfold scanBound; omega) fun h' tk ks hT hl hmem kp => ?_
  have I2 : Inv X pins σ H1 { s1 with heap := h', toks := tk } := I1.kept fun b o e => kp b o (Heap.lt_size e) e
  refine Calls.spliced_nil ?_
  refine sorted_tset (s := { s1 with heap := h', toks := tk }) (I1.ok.hd hc) hT (by omega) fun p h2 d2 tk2 out ms ee a1 a2 a3 a4 a5 a6 => ?_
  have hn1 : H1 p = none := I2.hok.fresh a4
  have I3 : Inv X pins σ H1 { s1 with heap := h', drawn := d2, toks := tk } := ⟨I2.ok, I2.os, I2.bare, I2.base, I2.loc, I2.cell, I2.free, I2.freeC, I2.pin, I2.hok, I2.len⟩
  refine ⟨.ref p, upd H1 p (.lst (ms.map V.str)), I3.laid (t' := tk2) a6 a4 ?_, rfl, q p ms (a2.nodup_iff.mpr hT.nodup) (fun x => (a2.mem_iff).trans (hmem x)) (by rw [a2.length_eq]; exact hl) a3 hn1⟩
  have hlen : ms.length ≤ ts.length := by rw [a2.length_eq]; exact hl
  exact ⟨by rw [List.length_map, sizeLine_eq]; omega, out.toList, ee, vals_of_strs a1, by simpa [seqObj] using a5⟩
end
end L2

set_option Elab.async false
set_option linter.all false
set_option maxRecDepth 100000
set_option exponentiation.threshold 2000
/-! sorted(d), d a dict whose keys are texts -/
namespace L2
open PySem PySem.Spec PyProof.Rows
namespace FS
theorem dict_len : typeLookup (.type "dict") "__len__" = pure (some (.builtin "dict.__len__")) := by rw [typeLookup_type, builtinLookup_eq_fast]; kernel_rfl
theorem split_dict_len : splitId "dict.__len__" = some ("dict", "__len__") := by decide +kernel
end FS
section
variable {prog : Program} {w : World} {A : Around} {E : Value → Shared → Prop} {s : Shared}
theorem hint_dict {a : Addr} {Q : Bool → Shared → Prop} (hT : s.TypeIs (.ref a) "dict") (h : Q false s) : wpAny (model prog w) A (Builtin.List.listLengthHint (.ref a)) Q E s := by
  unfold Builtin.List.listLengthHint
  refine wpAny_bind (wpAny_specialOf hT FS.dict_len ?_)
  dsimp only
  generalize hid : ("dict.__len__" : String) = id0
  rw [show splitId id0 = some ("dict", "__len__") from by subst hid; exact FS.split_dict_len]
  subst hid
  dsimp only
  refine wpAny_bind (wpAny_isInstance (b := true) hT sub_dict0 ?_)
  simp only [Bool.not_true, Bool.false_eq_true, if_false]
  refine wpAny_bind (wpAny_typeOf hT (wpAny_pure h))
variable {κ : Type} [DecidableEq κ] {knd : PySem.KeyKind prog w κ}
set_option maxHeartbeats 1000000 in
theorem collect_dict {a : Addr} {kvs : List (κ × Value)} {ep : Nat} {Q : List Value → Shared → Prop} (hh : A.handled = none) (hs : (a == sysModules) = false) (D : s.heap.DictAt knd a kvs ep) (hz : kvs.length ≤ sizeLine)
    (hQ : ∀ (h' : Heap) (tk : Nat) (vs : List Value), vs.length = kvs.length → (∀ (i : Nat) (v : Value), vs[i]? = some v → ∃ k u, kvs[i]? = some (k, u) ∧ knd.is k v = true) → s.heap.objs.size < h'.objs.size → (∀ b o, s.heap.get? b = some o → h'.get? b = some o) → Q vs { s with heap := h', toks := tk }) :
    wpAny (model prog w) A (collect (.ref a)) Q E s := by
  have haS : a < s.heap.objs.size := D.lt_size
  unfold collect
  refine wpAny_bind (wpAny_runValue (codeAny_builtin PySem.F.entry_proto_collect ?_))
  rw [Around.under_plainId PySem.F.plain_proto_collect _]
  show wpAny _ A.in1 (newList [] >>= fun l => again (.builtin "list.__iadd__" ⟨[l, .ref a], []⟩)) _ _ s
  refine wpAny_bind (wpAny_newObj_type ?_)
  refine wpAny_pure ⟨plainId_quiet PySem.F.plain_list_iadd _, codeAny_builtin PySem.F.entry_list_iadd ?_⟩
  rw [Around.under_plainId PySem.F.plain_list_iadd _]
  generalize hh1 : s.heap.push { cls := .type "list", data := .seq ([] : List Value).toArray } = h1
  have hk1 : ∀ b o, s.heap.get? b = some o → h1.get? b = some o := fun b o e => by rw [← hh1]; exact Heap.get?_push_of_some _ e
  have hS1 : h1.get? s.heap.objs.size = some { cls := .type "list", data := .seq ([] : List Value).toArray } := by rw [← hh1]; exact Heap.get?_push_size _ rfl
  have hz1 : s.heap.objs.size < h1.objs.size := Heap.lt_size hS1
  have D1 : h1.DictAt knd a kvs ep := D.keep hk1
  show wpAny _ A.in1 (Builtin.List.listExtendWith (.ref s.heap.objs.size) (.ref a) (.ref s.heap.objs.size)) _ _ { s with heap := h1 }
  unfold Builtin.List.listExtendWith
  have hT1 : Shared.TypeIs { s with heap := h1 } (.ref a) "dict" := D1.dictOf.typeIs
  refine wpAny_bind (wpAny_typeOf hT1 ?_)
  have e1 : Builtin.List.listSameRef (.ref s.heap.objs.size) (.ref a) = false := by
    unfold Builtin.List.listSameRef
    exact beq_eq_false_iff_ne.mpr (Ne.symm (Nat.ne_of_lt haS))
  rw [if_neg (by rw [e1]; decide)]
  refine wpAny_bind (wpAny_pyIter_dict (s := { s with heap := h1 }) (knd := knd) hs D1 ?_)
  generalize hh2 : h1.push { cls := .type "dict_keyiterator", data := .fields #[.ref a, .int 0 0, .int kvs.length 0, .int ep 0] } = h2
  have hk2 : ∀ b o, h1.get? b = some o → h2.get? b = some o := fun b o e => by rw [← hh2]; exact Heap.get?_push_of_some _ e
  have hi : h2.IsKeyIter h1.objs.size a 0 kvs.length ep := by rw [← hh2]; exact ⟨_, Heap.get?_push_size _ rfl, rfl, rfl⟩
  have D2 : h2.DictAt knd a kvs ep := D1.keep hk2
  show wpAny _ A.in1 _ _ _ { s with heap := h2 }
  refine wpAny_bind (wpAny_holding (hint_dict (s := { s with heap := h2 }) D2.dictOf.typeIs ?_))
  rw [if_pos (by decide)]
  refine wpAny_bind (wpAny_rule ?_)
  have hS2 : h2.get? s.heap.objs.size = some { cls := .type "list", data := .seq ([] : List Value).toArray } := hk2 _ _ hS1
  refine wpAny_bind ?_
  show wpAny _ A.in1 (updateSeq s.heap.objs.size (·.push .none) >>= fun _ => updateSeq s.heap.objs.size (·.pop)) _ _ { s with heap := h2 }
  refine wpAny_bind (wpAny_updateSeq hS2 rfl ?_)
  have hS3 := Heap.get?_update_self (Obj.mapSeq (·.push Value.none)) hS2 rfl
  refine wpAny_updateSeq hS3 rfl ?_
  have hS4 := Heap.get?_update_self (Obj.mapSeq (·.pop)) hS3 rfl
  have oth : ∀ b o, b ≠ s.heap.objs.size → h2.get? b = some o → ((h2.update s.heap.objs.size (Obj.mapSeq (·.push Value.none))).update s.heap.objs.size (Obj.mapSeq (·.pop))).get? b = some o :=
    fun b o hb e => (Heap.get?_update_other _ _ (Ne.symm hb)).trans ((Heap.get?_update_other _ _ (Ne.symm hb)).trans e)
  have hIne : h1.objs.size ≠ s.heap.objs.size := Ne.symm (Nat.ne_of_lt hz1)
  have hane : a ≠ h1.objs.size := Nat.ne_of_lt (Nat.lt_trans haS hz1)
  have ext : Heap.ExtBut s.heap.objs.size h2 ((h2.update s.heap.objs.size (Obj.mapSeq (·.push Value.none))).update s.heap.objs.size (Obj.mapSeq (·.pop))) := fun b o hb e => oth b o hb e
  have W := (Walks.dictKeys (knd := knd) (A := A.in1) (by simpa using hh) h1.objs.size a hane kvs ep).toS
  refine wpAny_pure ⟨plainId_quiet PySem.F.plain_extend_loop _, codeAny_extend_loopS W hz s.heap.objs.size ?_ _ kvs.length 0 _ _ _ rfl (Nat.zero_le _)
    ⟨hi.extBut ext hIne, D2.extBut ext (Nat.ne_of_lt haS)⟩ hS4 (ItemsOf.nil _) fun s' acc' c' hm hS' hacc => ?_⟩
  · intro hmem
    rw [List.mem_cons, List.mem_singleton] at hmem
    rcases hmem with h | h
    · exact hIne h.symm
    · exact Nat.ne_of_lt haS h.symm
  · show wpAny _ A (load s.heap.objs.size >>= _) _ _ s'
    refine wpAny_bind (wpAny_load hS' ?_)
    obtain ⟨h', g', d', tk', os'⟩ := s'
    have eg : g' = s.gens := hm.gens
    have ed : d' = s.drawn := hm.drawn
    have eo : os' = s.os := hm.os
    subst eg; subst ed; subst eo
    refine wpAny_pure ?_
    refine hQ h' tk' acc'.toList (by rw [Array.length_toList]; exact hacc.1) (fun i v hv => ?_) (Heap.lt_size hS') fun b o e => ?_
    · exact hacc.2 i v (by rw [← Array.getElem?_toList]; exact hv)
    · have hb : b < s.heap.objs.size := Heap.lt_size e
      refine hm.heap b o ?_ (oth b o (Nat.ne_of_lt hb) (hk2 _ _ (hk1 _ _ e)))
      simp only [List.mem_cons, List.not_mem_nil, or_false, not_or]
      exact ⟨Nat.ne_of_lt hb, Nat.ne_of_lt (Nat.lt_trans hb hz1)⟩

theorem strs_of_keys : ∀ (fs : List Str) (vs : List Value), vs.length = fs.length → (∀ (i : Nat) (v : Value) (f : Str), vs[i]? = some v → fs[i]? = some f → (mixKind prog w).is (.inr f) v = true) → StrsAre vs fs
  | [], [], _, _ => .nil
  | [], _ :: _, h, _ => by simp at h
  | _ :: _, [], h, _ => by simp at h
  | f :: fs, v :: vs, h, q => by
    have h0 := q 0 v f rfl rfl
    rw [mixKind_is] at h0
    obtain ⟨t, rfl⟩ : ∃ t, v = .str f t := Value.isStrOf_shape h0
    exact .cons f t (strs_of_keys fs vs (by simpa using h) fun i v f' hv hf => q (i + 1) v f' (by simpa using hv) (by simpa using hf))
end
section
variable {X : Cx}
/-- sorted(d), d a dict of text keys, fewer than 64 -/
def rSortD : List V → Hp → VK → Prop := fun xs H Q => ∃ (a : Addr) (kvs : List (Key × V)) (fs : List Str), xs = [.ref a] ∧ H a = some (.dK kvs) ∧ kvs.map (·.1) = fs.map Sum.inr ∧ fs.length < 64 ∧
  ∀ (p : Addr) (ms : List Str), ms.Perm fs → ms.Nodup → sortedS ms = true → H p = none → Q (.ref p) (upd H p (.lst (ms.map V.str)))
theorem call_sortedD (hc : X.calm = true) : CallR X (.builtin "sorted") rSortD := by
  intro pins s σ H xs us Q I r h
  obtain ⟨a, kvs, fs, rfl, hH, hfs, h64, q⟩ := h
  obtain ⟨u, rfl, rx⟩ := vals1 r
  cases rx
  obtain ⟨hz, hS, vs, rk, m⟩ : kvs.length ≤ sizeLine ∧ (a == sysModules) = false ∧ ∃ vs, KV kvs vs ∧ s.heap.DictOf (mixKind X.prog X.w) a vs := I.hok a _ hH
  obtain ⟨ep, D⟩ := m.dictAt
  have hlen : kvs.length = vs.length := Paired.length rk
  have hfl : kvs.length = fs.length := by have := congrArg List.length hfs; simpa using this
  have keys : vs.map (·.1) = fs.map Sum.inr := by
    rw [← hfs]
    clear hfs D m hlen hfl hz hH
    unfold KV at rk
    induction rk with
    | nil => rfl
    | cons r t ih => rw [List.map_cons, List.map_cons, ih, r.1]
  have hnd : fs.Nodup := by
    have := D.nodup
    rw [keys] at this
    exact List.Pairwise.of_map _ (fun _ _ z e => z (by rw [e])) this
  refine Calls.call_function_entry kind_sorted plain_sorted entry_sorted (args_sorted1 _) ?_
  unfold Builtin.«sorted»
  refine wpAny_bind (m := checkCount "sorted" 1 1 _) (wpAny_pure ?_)
  refine wpAny_bind (collect_dict (knd := mixKind X.prog X.w) (by simpa using I.ok.hd hc) hS D (by omega) fun h1 tk1 ws hwl hws hsz hk => ?_)
  have hv : StrsAre ws fs := strs_of_keys (prog := X.prog) (w := X.w) fs ws (by omega) fun i v f h2 h3 => by
    obtain ⟨k, u, h4, h5⟩ := hws i v h2
    have : (vs.map (·.1))[i]? = some k := by rw [List.getElem?_map, h4]; rfl
    rw [keys, List.getElem?_map, h3] at this
    cases this
    exact h5
  refine wpAny_bind (wpAny_newList ?_ (by rw [sizeLine_eq]; omega))
  have hoL : (h1.push (seqObj "list" ws.toArray 0)).get? h1.objs.size = some (seqObj "list" ws.toArray 0) := Heap.get?_push_size _ rfl
  show wpAny _ _ (holding _ _ >>= _) _ _ { s with heap := h1.push (seqObj "list" ws.toArray 0), toks := tk1 }
  refine wpAny_bind (wpAny_holding (wpAny_call_entry slot_list_sort ⟨_, hoL, rfl⟩ entry_list_sort (list_sort_treeK strKind_oneLt hoL hv.keysOf (fun v₁ v₂ rest e => keyKind_strs (by rw [← e]; exact hv)) (by omega) fun st' a1 a2 => ⟨_, rfl, ?_⟩) (args_list_sort _)))
  obtain ⟨ms, m1, m2, m3⟩ := sorted_out_str hv a1 a2
  obtain ⟨e, he⟩ := sortedHeap_at (out := (arrOf st').map (·.2)) hoL
  refine wpAny_pure ⟨_, rfl, ?_⟩
  have hn1 : H h1.objs.size = none := I.hok.fresh (Nat.le_of_lt hsz)
  refine ⟨.ref h1.objs.size, upd H h1.objs.size (.lst (ms.map V.str)), I.laid (t' := tk1) (fun b o eb => ?_) (Nat.le_of_lt hsz) ?_, rfl, q _ ms m2 (m2.nodup_iff.mpr hnd) m3 hn1⟩
  · have hb : b < h1.objs.size := Heap.lt_size (hk b o eb)
    rw [sortedHeap_old (Nat.ne_of_lt hb) (by rw [size_push']; exact Nat.lt_succ_of_lt hb)]
    exact Heap.get?_push_of_some _ (hk b o eb)
  · have hml : ms.length = fs.length := m2.length_eq
    exact ⟨by rw [List.length_map, sizeLine_eq]; omega, ((arrOf st').map (·.2)).toList, e, vals_of_strs m1, by rw [Array.toArray_toList]; exact he⟩
end
end L2

set_option Elab.async false
set_option linter.all false
set_option maxRecDepth 100000
set_option exponentiation.threshold 2000
/-! dict(d), d a dict -/
namespace L2
open PySem PySem.Spec PyProof.Rows
section
variable {X : Cx}
def rDictD : List V → Hp → VK → Prop := fun xs H Q => ∃ (a : Addr) (kvs : List (Key × V)), xs = [.ref a] ∧ H a = some (.dK kvs) ∧ ∀ d, H d = none → Q (.ref d) (upd H d (.dK kvs))
end
end L2

set_option Elab.async false
set_option linter.all false
set_option maxRecDepth 100000
set_option exponentiation.threshold 2000
namespace L2
open PySem PySem.Spec PyProof.Rows

/-! ### spans -/
def endV : V → Bool
  | .non => true
  | .int _ => true
  | _ => false
def leV : V → V → Bool
  | .int i, .int j => decide (i ≤ j)
  | _, _ => true
def isSpanV (H : Hp) : V → Bool
  | .ref a => match H a with
    | some (.tup [x, y]) => endV x && endV y && leV x y
    | _ => false
  | _ => false
def SpanAt (H : Hp) (v : V) (lo hi : Option Int) : Prop := ∃ a, v = .ref a ∧ H a = some (.tup [eV lo, eV hi])
def leO : Option Int → Option Int → Bool
  | some i, some j => decide (i ≤ j)
  | _, _ => true
theorem isSpan_of {H : Hp} {v : V} {lo hi : Option Int} (h : SpanAt H v lo hi) : isSpanV H v = leO lo hi := by
  obtain ⟨a, rfl, e⟩ := h
  unfold isSpanV
  simp only [e]
  cases lo <;> cases hi <;> simp [eV, endV, leV, leO]
theorem SpanAt.same {H H' : Hp} {v : V} {lo hi : Option Int} (h : SpanAt H v lo hi) (s : Same H H') : SpanAt H' v lo hi := by
  obtain ⟨a, e, q⟩ := h
  exact ⟨a, e, s _ _ q⟩
theorem SpanAt.sameB {H H' : Hp} {v : V} {lo hi : Option Int} {b g l : Addr} {n : Int} (h : SpanAt H v lo hi) (B : Bag H b g l n) (s : SameB b g H H') : SpanAt H' v lo hi := by
  obtain ⟨a, e, q⟩ := h
  exact ⟨a, e, s.tup B q⟩
theorem ty_eV {K : PySem.W.Frag} {H : Hp} (o : Option Int) : ∃ t, TyOf K H (eV o) (.type t) := by
  cases o with
  | none => exact ⟨_, .non⟩
  | some i => exact ⟨_, .int i⟩
def spWhole (K : PySem.W.Frag) : Sp := fun vs H Q _ => ∃ (v : V) (t : String), vs = [v] ∧ TyOf K H v (.type t) ∧ Q (.bl (t == "int")) H
def spEnd (K : PySem.W.Frag) : Sp := fun vs H Q _ => ∃ (v : V) (t : String), vs = [v] ∧ TyOf K H v (.type t) ∧ Q (.bl (endV v)) H
def PairTy (K : PySem.W.Frag) (H : Hp) (v : V) : Prop := ∀ a x y, v = .ref a → H a = some (.tup [x, y]) → ∃ t1 t2, TyOf K H x (.type t1) ∧ TyOf K H y (.type t2)
def spIsSpan (K : PySem.W.Frag) : Sp := fun vs H Q _ => ∃ (v : V) (t : String), vs = [v] ∧ TyOf K H v (.type t) ∧ PairTy K H v ∧ Q (.bl (isSpanV H v)) H
def spCheck (K : PySem.W.Frag) : Sp := fun vs H Q _ => ∃ (v : V) (t : String), vs = [v] ∧ TyOf K H v (.type t) ∧ PairTy K H v ∧ isSpanV H v = true ∧ Q .non H
theorem SpanAt.ty {K : PySem.W.Frag} {H : Hp} {v : V} {lo hi : Option Int} (h : SpanAt H v lo hi) : TyOf K H v (.type "tuple") ∧ PairTy K H v := by
  obtain ⟨a, rfl, q⟩ := h
  refine ⟨.tup q, fun a' x y e q' => ?_⟩
  cases e
  rw [q] at q'
  injection q' with q'
  injection q' with q'
  injection q' with e1 e2
  injection e2 with e2 _
  subst e1 e2
  obtain ⟨t1, h1⟩ := ty_eV (K := K) (H := H) lo
  obtain ⟨t2, h2⟩ := ty_eV (K := K) (H := H) hi
  exact ⟨t1, t2, h1, h2⟩
/-! ### what covers, what both share -/
def downB : Option Int → Option Int → Bool
  | none, _ => true
  | some _, none => false
  | some l, some o => decide (l ≤ o)
def upB : Option Int → Option Int → Bool
  | none, _ => true
  | some _, none => false
  | some h, some o => decide (o ≤ h)
def reachB (lo hi lo2 hi2 : Option Int) : Bool := downB lo lo2 && upB hi hi2
def mLo : Option Int → Option Int → Option Int
  | none, o => o
  | some l, none => some l
  | some l, some o => some (if l < o then o else l)
def mHi : Option Int → Option Int → Option Int
  | none, o => o
  | some h, none => some h
  | some h, some o => some (if o < h then o else h)
def apart : Option Int → Option Int → Bool
  | some l, some h => decide (h < l)
  | _, _ => false
def MetAt (H : Hp) (v : V) (lo hi : Option Int) : Prop := if apart lo hi = true then v = .non else SpanAt H v lo hi
def loB : Option Int → Int → Bool
  | none, _ => true
  | some l, k => decide (l ≤ k)
def hiB : Option Int → Int → Bool
  | none, _ => true
  | some h, k => decide (k ≤ h)
def inB (lo hi : Option Int) (k : Int) : Bool := loB lo k && hiB hi k
def spReach : Sp := fun vs H Q _ => ∃ (v w : V) (lo hi lo2 hi2 : Option Int), vs = [v, w] ∧ SpanAt H v lo hi ∧ SpanAt H w lo2 hi2 ∧ Q (.bl (reachB lo hi lo2 hi2)) H
def spCovers : Sp := fun vs H Q _ => ∃ (v w : V) (lo hi lo2 hi2 : Option Int), vs = [v, w] ∧ SpanAt H v lo hi ∧ SpanAt H w lo2 hi2 ∧ leO lo hi = true ∧ leO lo2 hi2 = true ∧ Q (.bl (reachB lo hi lo2 hi2)) H
def spShared : Sp := fun vs H Q _ => ∃ (v w : V) (lo hi lo2 hi2 : Option Int), vs = [v, w] ∧ SpanAt H v lo hi ∧ SpanAt H w lo2 hi2 ∧ ∀ v' H', Same H H' → MetAt H' v' (mLo lo lo2) (mHi hi hi2) → Q v' H'
def spMet : Sp := fun vs H Q _ => ∃ (v w : V) (lo hi lo2 hi2 : Option Int), vs = [v, w] ∧ SpanAt H v lo hi ∧ SpanAt H w lo2 hi2 ∧ leO lo hi = true ∧ leO lo2 hi2 = true ∧ ∀ v' H', Same H H' → MetAt H' v' (mLo lo lo2) (mHi hi hi2) → Q v' H'
def spIn : Sp := fun vs H Q _ => ∃ (v : V) (lo hi : Option Int) (k : Int), vs = [v, .int k] ∧ SpanAt H v lo hi ∧ Q (.bl (inB lo hi k)) H
/-- the numbers that are drawn -/
abbrev T15 : Int := 1000000000000000
def heldF (i : Int) : Int := if (if i < 10 ^ (15 : Int).toNat - 1 then i else 10 ^ (15 : Int).toNat - 1) > 1 - 10 ^ (15 : Int).toNat then (if i < 10 ^ (15 : Int).toNat - 1 then i else 10 ^ (15 : Int).toNat - 1) else 1 - 10 ^ (15 : Int).toNat
theorem e15 : (10 : Int) ^ (15 : Int).toNat = T15 := by decide
theorem heldF_eq (i : Int) : (heldF i = i ∧ -T15 < i ∧ i < T15) ∨ (heldF i = T15 - 1 ∧ T15 ≤ i + 1) ∨ (heldF i = 1 - T15 ∧ i ≤ 1 - T15) := by
  unfold heldF
  rw [e15]
  unfold T15
  split <;> split <;> omega
def inT (o : Option Int) : Prop := ∀ i, o = some i → -T15 < i ∧ i < T15
structure Good (lo hi : Option Int) : Prop where
  le : leO lo hi = true
  lo : inT lo
  hi : inT hi
def spHeld : Sp := fun vs H Q _ => ∃ i : Int, vs = [.int i] ∧ Q (.int (heldF i)) H
def spNumber : Sp := fun vs H Q _ => ∃ (b g l : Addr) (n : Int), vs = [.ref b] ∧ Bag H b g l n ∧ n ≤ 10 ^ 9 ∧ ∀ (r : Int) (H' : Hp), -T15 < r → r < T15 → Bag H' b g l (n + 3) → SameB b g H H' → Q (.int r) H'
def spSpan : Sp := fun vs H Q _ => ∃ (b g l : Addr) (n : Int), vs = [.ref b] ∧ Bag H b g l n ∧ n ≤ 10 ^ 8 ∧ ∀ (v : V) (lo hi : Option Int) (H' : Hp), SpanAt H' v lo hi → Good lo hi → Bag H' b g l (n + 8) → SameB b g H H' → Q v H'
def spMoved : Sp := fun vs H Q _ => ∃ (b g l : Addr) (n : Int) (w : V) (lo0 hi0 : Option Int), vs = [.ref b, w] ∧ Bag H b g l n ∧ SpanAt H w lo0 hi0 ∧ n ≤ 10 ^ 8 ∧ ∀ (v : V) (lo hi : Option Int) (H' : Hp), SpanAt H' v lo hi → Good lo hi → Bag H' b g l (n + 8) → SameB b g H H' → Q v H'
def spTwo : Sp := fun vs H Q _ => ∃ (b g l : Addr) (n : Int), vs = [.ref b] ∧ Bag H b g l n ∧ n ≤ 10 ^ 7 ∧ ∀ (r : Addr) (v w : V) (lo hi lo2 hi2 : Option Int) (H' : Hp), H' r = some (.tup [v, w]) → SpanAt H' v lo hi → SpanAt H' w lo2 hi2 → leO lo hi = true → leO lo2 hi2 = true → Bag H' b g l (n + 20) → SameB b g H H' → Q (.ref r) H'
theorem pw10 {j : Int} (h0 : 0 ≤ j) (h1 : j ≤ 1000) : CPowB 10 j := ⟨h0, h1, by decide⟩
/-! ### the points -/
def near : Option Int → List Int
  | none => []
  | some e => [e - 1, e, e + 1]
def pts0 : List Int := [0, 10 ^ (17 : Int).toNat, 0 - 10 ^ (17 : Int).toNat]
def ptsOf (ss : List (Option Int × Option Int)) : List Int := pts0 ++ ss.flatMap fun s => near s.1 ++ near s.2
def spPoints (K : PySem.W.Frag) : Sp := fun vs H Q _ => ∃ (a : Addr) (ss : List (Addr × Option Int × Option Int)), vs = [.ref a] ∧ SqL K H a (ss.map fun s => V.ref s.1) ∧ (∀ s ∈ ss, H s.1 = some (.tup [eV s.2.1, eV s.2.2])) ∧ ss.length ≤ 8 ∧
  ∀ r H', Same H H' → H' r = some (.lst ((ptsOf (ss.map (·.2))).map V.int)) → Q (.ref r) H'
/-! ### the mathematics -/
theorem filter_nil {c : Int → Bool} {ps : List Int} (h : ∀ k, c k = false) : (ps.filter c).isEmpty = true := by
  have : ps.filter c = [] := List.filter_eq_nil_iff.mpr fun k _ => by rw [h k]; exact Bool.false_ne_true
  rw [this]; rfl
def spMetRight : Sp := fun vs H Q _ => ∃ (m v w : V) (lo hi lo2 hi2 : Option Int), vs = [m, v, w] ∧ MetAt H m (mLo lo lo2) (mHi hi hi2) ∧ SpanAt H v lo hi ∧ SpanAt H w lo2 hi2 ∧ leO lo hi = true ∧ leO lo2 hi2 = true ∧ ∀ H', Same H H' → Q (.bl true) H'
def spCovRight : Sp := fun vs H Q _ => ∃ (v w : V) (lo hi lo2 hi2 : Option Int), vs = [v, w] ∧ SpanAt H v lo hi ∧ SpanAt H w lo2 hi2 ∧ leO lo hi = true ∧ leO lo2 hi2 = true ∧ ∀ H', Same H H' → Q (.bl true) H'
/-! ### what is compared -/
def dE : Option Int → PD
  | none => .non
  | some i => .int i
def dM (lo hi : Option Int) : PD := if apart lo hi = true then .non else .tup [dE lo, dE hi]
theorem rep_eV {K : PySem.W.Frag} {H : Hp} (o : Option Int) : Rep K H (dE o) (eV o) := by
  cases o with
  | none => show Rep K H .non .non; rw [Rep]
  | some i => show Rep K H (.int i) (.int i); rw [Rep]
theorem MetAt.same {H H' : Hp} {v : V} {lo hi : Option Int} (h : MetAt H v lo hi) (s : Same H H') : MetAt H' v lo hi := by
  unfold MetAt at h ⊢
  cases e : apart lo hi with
  | true => rw [e, if_pos rfl] at h; rw [if_pos rfl]; exact h
  | false => rw [e, if_neg Bool.false_ne_true] at h; rw [if_neg Bool.false_ne_true]; exact h.same s
/-! ### fields, wishes, pieces -/
def letterOk (c : Nat) : Bool := decide (97 ≤ c) && decide (c ≤ 122)
structure FieldOk (x : Str) : Prop where
  one : 1 ≤ x.length
  eight : x.length ≤ 8
  all : ∀ c ∈ x.cps.toList, letterOk c = true
theorem cps_a : ("a" : Str).cps.toList = [97] := by decide +kernel
theorem cps_z : ("z" : Str).cps.toList = [122] := by decide +kernel
theorem ge_a {c : Nat} (h : letterOk c = true) : (!decide ((⟨#[c]⟩ : Str).cps.toList < ("a" : Str).cps.toList)) = true := by
  rw [cps_a]
  have h1 : 97 ≤ c := of_decide_eq_true ((Bool.and_eq_true _ _).mp h).1
  have : ¬ ([c] : List Nat) < [97] := by
    intro z
    cases z with
    | rel z => exact absurd z (by omega)
    | cons z => cases z
  show (!decide (([c] : List Nat) < [97])) = true
  rw [decide_eq_false this]
  rfl
theorem le_z {c : Nat} (h : letterOk c = true) : (!decide (("z" : Str).cps.toList < (⟨#[c]⟩ : Str).cps.toList)) = true := by
  rw [cps_z]
  have h1 : c ≤ 122 := of_decide_eq_true ((Bool.and_eq_true _ _).mp h).2
  have : ¬ ([122] : List Nat) < [c] := by
    intro z
    cases z with
    | rel z => exact absurd z (by omega)
    | cons z => cases z
  show (!decide (([122] : List Nat) < [c])) = true
  rw [decide_eq_false this]
  rfl
def spField : Sp := fun vs H Q _ => ∃ x : Str, vs = [.str x] ∧ FieldOk x ∧ ∀ H', Same H H' → Q (.bl true) H'
def PartW (H : Hp) (p : Addr) (f : Str) (lo hi : Option Int) : Prop := H p = some (.tup [.str f, eV lo, eV hi])
def PartP (H : Hp) (p : Addr) (f : Str) (n : Int) : Prop := H p = some (.tup [.str f, .int n])
def spWishPart : Sp := fun vs H Q _ => ∃ (p : Addr) (f : Str) (lo hi : Option Int), vs = [.ref p] ∧ PartW H p f lo hi ∧ FieldOk f ∧ leO lo hi = true ∧ ∀ H', Same H H' → Q (.bl true) H'
def spPiecePart : Sp := fun vs H Q _ => ∃ (p : Addr) (f : Str) (n : Int), vs = [.ref p] ∧ PartP H p f n ∧ FieldOk f ∧ ∀ H', Same H H' → Q (.bl true) H'
def ltF (f g : Str) : Prop := f.cps.toList < g.cps.toList
/-- parts of a wish or a piece: the fields ahead, ascending -/
def spAscend : Sp := fun vs H Q _ => ∃ (a : Addr) (ps : List (Addr × Str × List V)), vs = [.ref a] ∧ H a = some (.tup (ps.map fun p => V.ref p.1)) ∧ ps.length ≤ 100 ∧ (∀ p ∈ ps, H p.1 = some (.tup (V.str p.2.1 :: p.2.2))) ∧
  (∀ (i : Nat) p q, ps[i]? = some p → ps[i + 1]? = some q → ltF p.2.1 q.2.1) ∧ ∀ H', Same H H' → Q (.bl true) H'
/-! ### wishes -/
abbrev WP := Str × Option Int × Option Int
def WishAt (H : Hp) (a : Addr) (w : List WP) : Prop := ∃ ps : List (Addr × WP), ps.map (·.2) = w ∧ H a = some (.tup (ps.map fun p => V.ref p.1)) ∧ ∀ p ∈ ps, H p.1 = some (.tup [.str p.2.1, eV p.2.2.1, eV p.2.2.2])
theorem WishAt.keep {H H' : Hp} {a : Addr} {w : List WP} (h : WishAt H a w) (s : Tups H H') : WishAt H' a w := by
  obtain ⟨ps, e, h1, h2⟩ := h
  exact ⟨ps, e, s _ _ h1, fun p hp => s _ _ (h2 p hp)⟩
theorem WishAt.same {H H' : Hp} {a : Addr} {w : List WP} (h : WishAt H a w) (s : Same H H') : WishAt H' a w := h.keep s.tups
structure WOk (w : List WP) : Prop where
  len : w.length ≤ 100
  ok : ∀ p ∈ w, FieldOk p.1 ∧ leO p.2.1 p.2.2 = true
  asc : (w.map (·.1)).Pairwise ltF
def spanOf (w : List WP) (f : Str) : Option (Option Int × Option Int) := (w.find? (fun p => decide (p.1 = f))).map (·.2)
theorem spanOf_none {w : List WP} {f : Str} (h : ∀ p ∈ w, p.1 ≠ f) : spanOf w f = none := by
  unfold spanOf
  rw [List.find?_eq_none.mpr fun p hp z => h p hp (of_decide_eq_true z)]
  rfl
theorem ltF_ne {f g : Str} (h : ltF f g) : f ≠ g := fun e => by
  subst e
  exact List.lt_irrefl _ h
theorem WOk.fresh {w : List WP} (h : WOk w) {i : Nat} {p : WP} (hp : w[i]? = some p) : spanOf (w.take i) p.1 = none := by
  refine spanOf_none fun q hq e => ?_
  obtain ⟨j, hj⟩ := List.getElem?_of_mem hq
  rw [List.getElem?_take] at hj
  split at hj
  · rename_i lt
    have hi : i < w.length := (List.getElem?_eq_some_iff.mp hp).1
    have := List.pairwise_iff_getElem.mp h.asc j i (by rw [List.length_map]; omega) (by rw [List.length_map]; exact hi) lt
    rw [List.getElem_map, List.getElem_map] at this
    have e1 : w[j]'(by omega) = q := (List.getElem?_eq_some_iff.mp hj).2
    have e2 : w[i] = p := (List.getElem?_eq_some_iff.mp hp).2
    rw [e1, e2] at this
    exact ltF_ne this e
  · cases hj
/-- a dict of the spans of a wish, by its fields -/
def DictSp (H : Hp) (d : Addr) (w : List WP) : Prop := ∃ kvs : List (Key × V), H d = some (.dK kvs) ∧ kvs.length ≤ w.length ∧ ∀ f : Str, match spanOf w f with
  | none => valV kvs (.inr f) = none
  | some s => ∃ t, valV kvs (.inr f) = some (.ref t) ∧ H t = some (.tup [eV s.1, eV s.2])
theorem DictSp.same {H H' : Hp} {d : Addr} {w : List WP} (h : DictSp H d w) (s : Same H H') : DictSp H' d w := by
  obtain ⟨kvs, e, l, q⟩ := h
  refine ⟨kvs, s _ _ e, l, fun f => ?_⟩
  have := q f
  cases hs : spanOf w f with
  | none => rw [hs] at this; exact this
  | some sp => rw [hs] at this; obtain ⟨t, h1, h2⟩ := this; exact ⟨t, h1, s _ _ h2⟩
def reachP (other : List WP) (p : WP) : Bool := match spanOf other p.1 with
  | none => false
  | some s => reachB p.2.1 p.2.2 s.1 s.2
def reachW (one other : List WP) : Bool := one.all (reachP other)
def spIsWish : Sp := fun vs H Q _ => ∃ (a : Addr) (w : List WP), vs = [.ref a] ∧ WishAt H a w ∧ WOk w ∧ ∀ H', Same H H' → Q (.bl true) H'
def spChkWish : Sp := fun vs H Q _ => ∃ (a : Addr) (w : List WP), vs = [.ref a] ∧ WishAt H a w ∧ WOk w ∧ ∀ H', Same H H' → Q .non H'
def spSpansBy : Sp := fun vs H Q _ => ∃ (a : Addr) (w : List WP), vs = [.ref a] ∧ WishAt H a w ∧ WOk w ∧ ∀ d H', Same H H' → H d = none → DictSp H' d w → Q (.ref d) H'
def spReachSp : Sp := fun vs H Q _ => ∃ (a d : Addr) (w w' : List WP), vs = [.ref a, .ref d] ∧ WishAt H a w ∧ DictSp H d w' ∧ ∀ H', Same H H' → Q (.bl (reachW w w')) H'
def spWishReach : Sp := fun vs H Q _ => ∃ (a b : Addr) (w w' : List WP), vs = [.ref a, .ref b] ∧ WishAt H a w ∧ WishAt H b w' ∧ WOk w' ∧ ∀ H', Same H H' → Q (.bl (reachW w w')) H'
/-! ### a number of a span, a number apart -/
def numOf : Option Int → Option Int → Int
  | some l, _ => l
  | none, some h => h
  | none, none => 0
def apBelow (lo hi lo2 : Option Int) : Option Int := match lo2 with
  | none => none
  | some l => if apart lo (mHi hi (some (l - 1))) = true then none else some (numOf lo (mHi hi (some (l - 1))))
def apAbove (lo hi hi2 : Option Int) : Option Int := match hi2 with
  | none => none
  | some h => if apart (mLo lo (some (h + 1))) hi = true then none else some (numOf (mLo lo (some (h + 1))) hi)
def numApart (lo hi lo2 hi2 : Option Int) : Option Int := match apBelow lo hi lo2 with
  | some n => some n
  | none => apAbove lo hi hi2
def spNumOf : Sp := fun vs H Q _ => ∃ (v : V) (lo hi : Option Int), vs = [v] ∧ SpanAt H v lo hi ∧ Q (.int (numOf lo hi)) H
def spApart : Sp := fun vs H Q _ => ∃ (v w : V) (lo hi lo2 hi2 : Option Int), vs = [v, w] ∧ SpanAt H v lo hi ∧ SpanAt H w lo2 hi2 ∧ ∀ H', Same H H' → Q (eV (numApart lo hi lo2 hi2)) H'
def spHow : Sp := fun vs H Q _ => ∃ (v : V) (lo hi : Option Int), vs = [v] ∧ SpanAt H v lo hi ∧ leO lo hi = true ∧ Q (match lo, hi with | some l, some h => .int (h - l + 1) | _, _ => .non) H
def spChkNum : Sp := fun vs H Q _ => ∃ i : Int, vs = [.int i] ∧ Q .non H
def spIsIn : Sp := fun vs H Q _ => ∃ (v : V) (lo hi : Option Int) (k : Int), vs = [v, .int k] ∧ SpanAt H v lo hi ∧ leO lo hi = true ∧ Q (.bl (inB lo hi k)) H
/-! ### pieces -/
abbrev PP := Str × Int
def PieceAt (H : Hp) (a : Addr) (w : List PP) : Prop := ∃ ps : List (Addr × PP), ps.map (·.2) = w ∧ H a = some (.tup (ps.map fun p => V.ref p.1)) ∧ ∀ p ∈ ps, H p.1 = some (.tup [.str p.2.1, .int p.2.2])
def numFor (other : List WP) (p : WP) : Int := match numApart p.2.1 p.2.2 ((spanOf other p.1).getD (none, none)).1 ((spanOf other p.1).getD (none, none)).2 with
  | some n => n
  | none => numOf p.2.1 p.2.2
def partP (one other : List WP) : List PP := one.map fun p => (p.1, numFor other p)
def spParting : Sp := fun vs H Q _ => ∃ (a b : Addr) (w w' : List WP), vs = [.ref a, .ref b] ∧ WishAt H a w ∧ WishAt H b w' ∧ WOk w ∧ WOk w' ∧ (reachW w' w = true → ∀ H', Same H H' → Q .non H') ∧
  (reachW w' w = false → ∀ r H', Same H H' → PieceAt H' r (partP w w') → Q (.ref r) H')
/-- a dict comprehension over a tuple, by its invariant -/
theorem dc_tup {K : PySem.W.Frag} {a p : Addr} {xs : List V} {g : TG} {tc : TT} {tk tv : TE} {σ : St} {H : Hp} {Q : VK} {js : Cap} (Pv : Nat → St → List (Key × V) → Hp → Prop) (h0 : Pv 0 (inn js σ) [] (upd H p (.dK [])))
    (hl : ∀ i σ kvs H, i ≤ xs.length → Pv i σ kvs H → SqT K H a xs ∧ H p = some (.dK kvs) ∧ kvs.length < sizeLine)
    (hs : ∀ (i : Nat) x σ kvs H (N : St → List (Key × V) → Hp → Prop), xs[i]? = some x → Pv i σ kvs H → (∀ σ' kvs' H', Pv (i + 1) σ' kvs' H' → N σ' kvs' H') → g x σ H fun σ2 H2 => tc σ2 H2 fun b H3 =>
      if b = true then tk σ2 H3 fun k H4 => tv σ2 H4 fun y H5 => ∃ ky, k = kV ky ∧ H5 p = some (.dK kvs) ∧ N σ2 (putK kvs ky y) (upd H5 p (.dK (putK kvs ky y))) else N σ2 kvs H3)
    (hd : ∀ σ kvs H, Pv xs.length σ kvs H → Q (.ref p) H) : DcGoal (Itt K a) p js g tc tk tv σ H Q := by
  refine ⟨fun i m σ kvs H => m = xs.length - i ∧ i ≤ xs.length ∧ Pv i σ kvs H, ⟨xs.length, by simp, Nat.zero_le _, h0⟩, ?_⟩
  rintro i m σ kvs H ⟨rfl, hi, pv⟩
  obtain ⟨q0, q1, q2⟩ := hl i σ kvs H hi pv
  refine ⟨q1, ?_⟩
  by_cases lt : i < xs.length
  · refine .inr ⟨⟨xs, xs[i], q0, by simp [lt]⟩, q2, fun x H' y => ?_⟩
    obtain ⟨e, y⟩ := y
    subst e
    exact hs i x σ kvs H' (fun σ2 kvs2 H2 => ∃ m', m' < xs.length - i ∧ m' = xs.length - (i + 1) ∧ i + 1 ≤ xs.length ∧ Pv (i + 1) σ2 kvs2 H2) (y xs q0) pv fun σ' ys' H' p' => ⟨xs.length - (i + 1), by omega, rfl, lt, p'⟩
  · have e : i = xs.length := by omega
    subst e
    exact .inl ⟨⟨xs, q0, Nat.le_refl _⟩, hd σ kvs H pv⟩
end L2

set_option Elab.async false
set_option linter.all false
set_option maxRecDepth 100000
set_option exponentiation.threshold 2000
namespace L2
open PySem PySem.Spec PyProof.Rows
/-! ### texts in order -/
theorem str_ext {x y : Str} (h : x.cps.toList = y.cps.toList) : x = y := by
  obtain ⟨a⟩ := x
  obtain ⟨b⟩ := y
  congr
  exact Array.toList_inj.mp h
theorem ltF_tri {x y : Str} (h : ¬ ltF x y) (n : x ≠ y) : ltF y x := by
  unfold ltF at *
  rcases Std.lt_trichotomy (α := List Nat) x.cps.toList y.cps.toList with h1 | h1 | h1
  · exact absurd h1 h
  · exact absurd (str_ext h1) n
  · exact h1
theorem ltF_trans {x y z : Str} (h : ltF x y) (h2 : ltF y z) : ltF x z := List.lt_trans h h2
theorem rising_lt : ∀ (r : List Str) (p : Str), risingS p r = true → (p :: r).Nodup → (p :: r).Pairwise ltF
  | [], p, _, _ => List.pairwise_singleton _ _
  | x :: r, p, h, n => by
    unfold risingS at h
    rw [Bool.and_eq_true, Bool.not_eq_true', ltCps_eq, decide_eq_false_iff_not] at h
    rw [List.nodup_cons] at n
    have px : ltF p x := ltF_tri (x := x) (y := p) h.1 (fun e => n.1 (by rw [← e]; exact List.mem_cons_self))
    have ih := rising_lt r x h.2 n.2
    rw [List.pairwise_cons]
    refine ⟨fun y hy => ?_, ih⟩
    rcases List.mem_cons.mp hy with rfl | hy
    · exact px
    · exact ltF_trans px ((List.pairwise_cons.mp ih).1 y hy)
theorem sorted_lt {ms : List Str} (h : sortedS ms = true) (n : ms.Nodup) : ms.Pairwise ltF := by
  cases ms with
  | nil => exact .nil
  | cons x r => exact rising_lt r x h n
/-! ### pieces -/
theorem PieceAt.keep {H H' : Hp} {a : Addr} {w : List PP} (h : PieceAt H a w) (s : Tups H H') : PieceAt H' a w := by
  obtain ⟨ps, e, h1, h2⟩ := h
  exact ⟨ps, e, s _ _ h1, fun p hp => s _ _ (h2 p hp)⟩
theorem PieceAt.same {H H' : Hp} {a : Addr} {w : List PP} (h : PieceAt H a w) (s : Same H H') : PieceAt H' a w := h.keep s.tups
structure POk (p : List PP) : Prop where
  len : p.length ≤ 100
  ok : ∀ x ∈ p, FieldOk x.1
  asc : (p.map (·.1)).Pairwise ltF
def numIn (p : List PP) (f : Str) : Option Int := (p.find? (fun x => decide (x.1 = f))).map (·.2)
theorem numIn_none {w : List PP} {f : Str} (h : ∀ p ∈ w, p.1 ≠ f) : numIn w f = none := by
  unfold numIn
  rw [List.find?_eq_none.mpr fun p hp z => h p hp (of_decide_eq_true z)]
  rfl
theorem numIn_snoc (w : List PP) (p : PP) (f : Str) (hn : numIn w p.1 = none) : numIn (w ++ [p]) f = if f = p.1 then some p.2 else numIn w f := by
  unfold numIn at *
  rw [List.find?_append]
  by_cases h : f = p.1
  · subst h
    rw [if_pos rfl]
    cases e : w.find? (fun q => decide (q.1 = p.1)) with
    | some q => rw [e] at hn; cases hn
    | none => simp
  · rw [if_neg h]
    cases e : w.find? (fun q => decide (q.1 = f)) with
    | some q => rfl
    | none => simp; exact fun z => h z.symm
theorem POk.fresh {w : List PP} (h : POk w) {i : Nat} {p : PP} (hp : w[i]? = some p) : numIn (w.take i) p.1 = none := by
  refine numIn_none fun q hq e => ?_
  obtain ⟨j, hj⟩ := List.getElem?_of_mem hq
  rw [List.getElem?_take] at hj
  split at hj
  · rename_i lt
    have hi : i < w.length := (List.getElem?_eq_some_iff.mp hp).1
    have := List.pairwise_iff_getElem.mp h.asc j i (by rw [List.length_map]; omega) (by rw [List.length_map]; exact hi) lt
    rw [List.getElem_map, List.getElem_map] at this
    have e1 : w[j]'(by omega) = q := (List.getElem?_eq_some_iff.mp hj).2
    have e2 : w[i] = p := (List.getElem?_eq_some_iff.mp hp).2
    rw [e1, e2] at this
    exact ltF_ne this e
  · cases hj
/-- what a wish's part says of a piece -/
def takesP (p : List PP) (x : WP) : Bool := match numIn p x.1 with
  | none => false
  | some n => inB x.2.1 x.2.2 n
theorem takesP_none {p : List PP} {x : WP} (h : numIn p x.1 = none) : takesP p x = false := by unfold takesP; rw [h]
theorem takesP_some {p : List PP} {x : WP} {n : Int} (h : numIn p x.1 = some n) : takesP p x = inB x.2.1 x.2.2 n := by unfold takesP; rw [h]
def takesW (w : List WP) (p : List PP) : Bool := w.all (takesP p)
theorem takesW_out {w : List WP} {p : List PP} {x : WP} (hx : x ∈ w) (h : takesP p x = false) : takesW w p = false := by
  unfold takesW
  rw [List.all_eq_false]
  exact ⟨x, hx, by rw [h]; exact Bool.false_ne_true⟩
def spIsPiece : Sp := fun vs H Q _ => ∃ (a : Addr) (w : List PP), vs = [.ref a] ∧ PieceAt H a w ∧ POk w ∧ ∀ H', Same H H' → Q (.bl true) H'
def spChkPiece : Sp := fun vs H Q _ => ∃ (a : Addr) (w : List PP), vs = [.ref a] ∧ PieceAt H a w ∧ POk w ∧ ∀ H', Same H H' → Q .non H'
def spTakes : Sp := fun vs H Q _ => ∃ (a b : Addr) (w : List WP) (p : List PP), vs = [.ref a, .ref b] ∧ WishAt H a w ∧ PieceAt H b p ∧ POk p ∧ ∀ H', Same H H' → Q (.bl (takesW w p)) H'
def spWants : Sp := fun vs H Q _ => ∃ (a b : Addr) (w : List WP) (p : List PP), vs = [.ref a, .ref b] ∧ WishAt H a w ∧ PieceAt H b p ∧ WOk w ∧ POk p ∧ ∀ H', Same H H' → Q (.bl (takesW w p)) H'
/-! ### drawn fields -/
def spLawField : Sp := fun vs H Q _ => ∃ (b g l : Addr) (n : Int), vs = [.ref b] ∧ Bag H b g l n ∧ n ≤ 10 ^ 8 ∧ ∀ (x : Str) (H' : Hp), FieldOk x → Bag H' b g l (n + 12) → SameB b g H H' → Q (.str x) H'
def spLawFields : Sp := fun vs H Q _ => ∃ (b g l : Addr) (n most : Int), vs = [.ref b, .int most] ∧ Bag H b g l n ∧ n ≤ 10 ^ 7 ∧ 0 ≤ most ∧ most ≤ 9 ∧
  ∀ (r : Addr) (fs : List Str) (H' : Hp), H r = none → H' r = some (.lst (fs.map V.str)) → fs.Pairwise ltF → (∀ f ∈ fs, FieldOk f) → (fs.length : Int) ≤ most → Bag H' b g l (n + 200) → SameB b g H H' → Q (.ref r) H'
def spLawNear : Sp := fun vs H Q _ => ∃ (b g l : Addr) (n : Int) (v : V) (lo hi : Option Int), vs = [.ref b, v] ∧ Bag H b g l n ∧ SpanAt H v lo hi ∧ n ≤ 10 ^ 8 ∧ ∀ (r : Int) (H' : Hp), Bag H' b g l (n + 8) → SameB b g H H' → Q (.int r) H'
theorem az : ("abcdefghijklmnopqrstuvwxyz" : Str).cps.toList = (List.range 26).map (· + 97) := by decide +kernel
theorem az_at {r : Int} (h0 : 0 ≤ r) (h1 : r < 26) : ∃ c, atI ("abcdefghijklmnopqrstuvwxyz" : Str).cps.toList r = some c ∧ letterOk c = true := by
  rw [az]
  obtain ⟨k, rfl⟩ : ∃ k : Nat, r = k := ⟨r.toNat, by omega⟩
  have hk : k < 26 := by omega
  refine ⟨k + 97, ?_, ?_⟩
  · refine atI_nat ?_
    rw [List.getElem?_map, List.getElem?_range hk]
    rfl
  · unfold letterOk
    rw [Bool.and_eq_true]
    exact ⟨decide_eq_true (by omega), decide_eq_true (by omega)⟩
/-- a text joined of signs -/
theorem join_signs : ∀ (cs : List Nat), (Txt.join ("" : Str) (cs.map fun c => (⟨#[c]⟩ : Str))).cps.toList = cs
  | [] => rfl
  | [c] => rfl
  | c :: d :: r => by
    have ih := join_signs (d :: r)
    have e : ∀ (ts : List Str), Txt.join ("" : Str) ts = Str.join ("" : Str) ts := fun ts => StrLaws.glued_eq_join _ _
    rw [e] at ih ⊢
    show ((⟨#[c]⟩ : Str) ++ ("" : Str) ++ Str.join ("" : Str) ((d :: r).map fun c => (⟨#[c]⟩ : Str))).cps.toList = _
    have : ((⟨#[c]⟩ : Str) ++ ("" : Str) ++ Str.join ("" : Str) ((d :: r).map fun c => (⟨#[c]⟩ : Str))).cps.toList = c :: (Str.join ("" : Str) ((d :: r).map fun c => (⟨#[c]⟩ : Str))).cps.toList := by
      show (#[c] ++ #[] ++ _ : Array Nat).toList = _
      simp
    rw [this, ih]
theorem join_ok (cs : List Nat) (h : cs.length ≤ 1000) : JoinOk ("" : Str) (cs.map fun c => (⟨#[c]⟩ : Str)) = true := by
  unfold JoinOk
  rw [Bool.not_eq_true']
  refine StrLaws.joinFits (B := 1) (fun y hy => ?_) ?_
  · obtain ⟨c, _, rfl⟩ := List.mem_map.mp hy
    exact Nat.le_refl 1
  · rw [List.length_map]
    show cs.length * 1 + cs.length * 0 ≤ _
    omega
theorem join_field {cs : List Nat} (h1 : 1 ≤ cs.length) (h8 : cs.length ≤ 8) (ok : ∀ c ∈ cs, letterOk c = true) : FieldOk (Txt.join ("" : Str) (cs.map fun c => (⟨#[c]⟩ : Str))) := by
  have e := join_signs cs
  have hl : (Txt.join ("" : Str) (cs.map fun c => (⟨#[c]⟩ : Str))).length = cs.length := by
    show Array.size _ = _
    rw [← Array.length_toList, e]
  exact ⟨by rw [hl]; exact h1, by rw [hl]; exact h8, by rw [e]; exact ok⟩
theorem SameB.off {b g p : Addr} {H H' : Hp} {o : HO} (s : SameB b g H H') (hp : H p = none) : SameB b g H (upd H' p o) := fun a x h n1 n2 => by
  have : a ≠ p := fun e => by rw [e, hp] at h; cases h
  rw [upd_ne this]
  exact s a x h n1 n2
theorem Bag.off {b g l p : Addr} {n : Int} {H : Hp} {o : HO} (B : Bag H b g l n) (pb : p ≠ b) (pg : p ≠ g) (pl : p ≠ l) : Bag (upd H p o) b g l n := by
  obtain ⟨gs, ls, c, st, e1, e2, e3, r⟩ := B.ex
  exact ⟨⟨gs, ls, c, st, by rw [upd_ne pb.symm]; exact e1, by rw [upd_ne pg.symm]; exact e2, by rw [upd_ne pl.symm]; exact e3, r⟩, B.gl⟩
theorem SameB.none {b g p : Addr} {H H' : Hp} (s : SameB b g H H') (hp : H' p = none) (pb : p ≠ b) (pg : p ≠ g) : H p = none := by
  cases e : H p with
  | none => rfl
  | some o => rw [s p o e pb pg] at hp; cases hp
end L2

set_option Elab.async false
set_option linter.all false
set_option maxRecDepth 100000
set_option exponentiation.threshold 2000
namespace L2
open PySem PySem.Spec PyProof.Rows
def spCoversW : Sp := fun vs H Q _ => ∃ (a b : Addr) (w w' : List WP), vs = [.ref a, .ref b] ∧ WishAt H a w ∧ WishAt H b w' ∧ WOk w ∧ WOk w' ∧ ∀ H', Same H H' → Q (.bl (reachW w w')) H'
/-- a wish as the laws draw one -/
structure WDrawn (w : List WP) : Prop where
  len : w.length ≤ 9
  ok : ∀ p ∈ w, FieldOk p.1 ∧ Good p.2.1 p.2.2
  asc : (w.map (·.1)).Pairwise ltF
theorem WDrawn.wok {w : List WP} (h : WDrawn w) : WOk w := ⟨by have := h.len; omega, fun p hp => ⟨(h.ok p hp).1, (h.ok p hp).2.le⟩, h.asc⟩
/-- a list of fields of its own, beside the bag -/
structure FieldsAt (H : Hp) (b g : Addr) (a : Addr) (fs : List Str) : Prop where
  at' : H a = some (.lst (fs.map V.str))
  nb : a ≠ b
  ng : a ≠ g
  len : fs.length ≤ 9
  ok : ∀ f ∈ fs, FieldOk f
  asc : fs.Pairwise ltF
theorem FieldsAt.sameB {H H' : Hp} {b g a : Addr} {fs : List Str} (h : FieldsAt H b g a fs) (s : SameB b g H H') : FieldsAt H' b g a fs := ⟨s _ _ h.at' h.nb h.ng, h.nb, h.ng, h.len, h.ok, h.asc⟩
def spLawWish : Sp := fun vs H Q _ => ∃ (b g l fl : Addr) (n : Int) (fs : List Str), vs = [.ref b, .ref fl] ∧ Bag H b g l n ∧ n ≤ 10 ^ 7 ∧ FieldsAt H b g fl fs ∧
  ∀ (r : Addr) (w : List WP) (H' : Hp), WishAt H' r w → WDrawn w → Bag H' b g l (n + 100) → SameB b g H H' → Q (.ref r) H'
theorem WishAt.sameB {H H' : Hp} {b g l : Addr} {n : Int} {a : Addr} {w : List WP} (h : WishAt H a w) (B : Bag H b g l n) (s : SameB b g H H') : WishAt H' a w := h.keep fun _ _ e => s.tup B e
theorem PieceAt.sameB {H H' : Hp} {b g l : Addr} {n : Int} {a : Addr} {w : List PP} (h : PieceAt H a w) (B : Bag H b g l n) (s : SameB b g H H') : PieceAt H' a w := h.keep fun _ _ e => s.tup B e

theorem depth_dE (o : Option Int) : depthD (dE o) = 0 := by cases o <;> rfl
/-- the span of a field, any where there is none -/
def spanOr (w : List WP) (f : Str) : Option Int × Option Int := (spanOf w f).getD (none, none)
def spSpanOf : Sp := fun vs H Q _ => ∃ (a : Addr) (w : List WP) (f : Str), vs = [.ref a, .str f] ∧ WishAt H a w ∧ WOk w ∧ ∀ (v : V) (H' : Hp), Same H H' → SpanAt H' v (spanOr w f).1 (spanOr w f).2 → Q v H'

def spLawIsField : Sp := fun vs H Q _ => ∃ x : Str, vs = [.str x] ∧ FieldOk x ∧ ∀ H', Same H H' → Q (.bl true) H'
/-- what the law's own look says of a piece that is one -/
def spLawMade2 : Sp := fun vs H Q _ => ∃ (a : Addr) (p : List PP), vs = [.ref a, .int 2] ∧ PieceAt H a p ∧ POk p ∧ ∀ H', Same H H' → Q (.bl true) H'
def spLawIsSpan : Sp := fun vs H Q _ => ∃ lo hi : Option Int, vs = [eV lo, eV hi] ∧ leO lo hi = true ∧ ∀ H', Same H H' → Q (.bl true) H'
/-- a dict made of a piece's pairs -/
def prsOf (ps : List (Addr × PP)) : List (Addr × Key × V) := ps.map fun p => (p.1, (Sum.inr p.2.1 : Key), V.int p.2.2)
/-- of a def that no turn of the law calls -/
def spNever : Sp := fun _ _ _ _ => False

/-! ### the pieces that the law asks -/
def rowOf (w' : List WP) (p : WP) : List Int := (ptsOf [(p.2.1, p.2.2), spanOr w' p.1]).filter (inB p.2.1 p.2.2)
def firstOf (w' : List WP) (p : WP) : Int := (rowOf w' p).headD 0
def basePc (w w' : List WP) : List PP := w.map fun p => (p.1, firstOf w' p)
def setPc (b : List PP) (f : Str) (k : Int) : List PP := b.map fun x => if x.1 = f then (x.1, k) else x
def piecesOf (w w' : List WP) : List (List PP) := basePc w w' :: w.flatMap fun p => (rowOf w' p).map (setPc (basePc w w') p.1)
def PiecesAt (H : Hp) (r : Addr) (ps : List (List PP)) : Prop := ∃ qs : List (Addr × List PP), qs.map (·.2) = ps ∧ H r = some (.lst (qs.map fun q => V.ref q.1)) ∧ ∀ q ∈ qs, PieceAt H q.1 q.2
def spPieces : Sp := fun vs H Q _ => ∃ (a b : Addr) (w w' : List WP), vs = [.ref a, .ref b] ∧ WishAt H a w ∧ WishAt H b w' ∧ WDrawn w ∧ WDrawn w' ∧ ∀ r H', Same H H' → PiecesAt H' r (piecesOf w w') → Q (.ref r) H'
def spBeside6 : Sp := fun vs H Q _ => ∃ (b g l a fl : Addr) (n : Int) (w : List WP) (fs : List Str), vs = [.ref b, .ref a, .ref fl] ∧ Bag H b g l n ∧ n ≤ 10 ^ 7 ∧ WishAt H a w ∧ WDrawn w ∧ FieldsAt H b g fl fs ∧
  ∀ (r : Addr) (w' : List WP) (H' : Hp), WishAt H' r w' → WDrawn w' → Bag H' b g l (n + 300) → SameB b g H H' → Q (.ref r) H'

theorem DictSp.sameB {H H' : Hp} {d b g l : Addr} {n : Int} {w : List WP} (h : DictSp H d w) (B : Bag H b g l n) (db : d ≠ b) (dg : d ≠ g) (s : SameB b g H H') : DictSp H' d w := by
  obtain ⟨kvs, e, l', q⟩ := h
  refine ⟨kvs, s _ _ e db dg, l', fun f => ?_⟩
  have := q f
  cases hs : spanOf w f with
  | none => rw [hs] at this; exact this
  | some sp => rw [hs] at this; obtain ⟨t, h1, h2⟩ := this; exact ⟨t, h1, s.tup B h2⟩
theorem DictSp.off {H : Hp} {d r : Addr} {w : List WP} {xs ys : List V} (h : DictSp H d w) (e : H r = some (.lst xs)) : DictSp (upd H r (.lst ys)) d w := by
  obtain ⟨kvs, k1, l', q⟩ := h
  have dr : d ≠ r := fun z => by rw [z, e] at k1; cases k1
  refine ⟨kvs, by rw [upd_ne dr]; exact k1, l', fun f => ?_⟩
  have := q f
  cases hs : spanOf w f with
  | none => rw [hs] at this; exact this
  | some sp =>
    rw [hs] at this
    obtain ⟨t, h1, h2⟩ := this
    exact ⟨t, h1, by rw [upd_ne (fun z => by rw [z, e] at h2; cases h2)]; exact h2⟩

/-- the dict of a piece's numbers -/
def kvP (p : List PP) : List (Key × V) := p.map fun x => ((Sum.inr x.1 : Key), V.int x.2)
theorem valV_kvP (f : Str) : ∀ p : List PP, valV (kvP p) (.inr f : Key) = (numIn p f).map V.int
  | [] => rfl
  | x :: r => by
    by_cases h : x.1 = f
    · subst h
      rw [show kvP (x :: r) = ((Sum.inr x.1 : Key), V.int x.2) :: kvP r from rfl, valV_pos rfl]
      simp [numIn]
    · rw [show kvP (x :: r) = ((Sum.inr x.1 : Key), V.int x.2) :: kvP r from rfl, valV_neg (fun z => h (by injection z)), valV_kvP f r]
      simp [numIn, List.find?_cons, h]
theorem kvP_keys (p : List PP) : (kvP p).map (·.1) = (p.map (·.1)).map Sum.inr := by
  unfold kvP
  rw [List.map_map, List.map_map]
  rfl
/-- [(name, d[name]) for name in ..]: the pairs of a piece -/
theorem lc_piece {K : PySem.W.Frag} {H : Hp} {z p : Addr} {Q : VK} {js : Cap} {σ cap : St} {te : TE} (base : List PP) (hb : base.length ≤ 100) (e : SqL K H z ((base.map (·.1)).map V.str)) (hp : H p = none) (hσ : inn js σ = none :: cap)
    (he : ∀ x ∈ base, ∀ H' (R : VK), Same H H' → (∀ t, H' t = none → R (.ref t) (upd H' t (.tup [.str x.1, .int x.2]))) → te (some (.str x.1) :: cap) H' R)
    (hq : ∀ H' (qs : List (Addr × PP)), Same H H' → qs.map (·.2) = base → H' p = some (.lst (qs.map fun q => V.ref q.1)) → (∀ q ∈ qs, H' q.1 = some (.tup [.str q.2.1, .int q.2.2])) → Q (.ref p) H') : LcGoal (Itl K z) p js (gName 0) tYes te σ H Q := by
  have s0 := same_new hp (.lst [])
  refine lc_list (xs := (base.map (·.1)).map V.str) (fun i σ' ys H' => (∃ v, σ' = v :: cap) ∧ Same H H' ∧ H' p = some (.lst ys) ∧ ∃ qs : List (Addr × PP), ys = qs.map (fun q => V.ref q.1) ∧ qs.map (·.2) = base.take i ∧ ∀ q ∈ qs, H' q.1 = some (.tup [.str q.2.1, .int q.2.2])) ⟨⟨_, hσ⟩, s0, upd_same, [], rfl, rfl, fun q hq => by simp at hq⟩ ?_ ?_ ?_
  · rintro i σ' ys H' hi ⟨_, s, h1, qs, rfl, h3, _⟩
    refine ⟨s.seq e, h1, ?_⟩
    have := congrArg List.length h3
    rw [List.length_map, List.length_take] at this
    rw [List.length_map]
    exact small1000 (by omega)
  · rintro i x σ' ys H' N hx ⟨⟨v, rfl⟩, s, h1, qs, rfl, h3, h4⟩ hN
    rw [List.getElem?_map, List.getElem?_map] at hx
    cases e1 : base[i]? with
    | none => rw [e1] at hx; cases hx
    | some m =>
      rw [e1] at hx
      obtain rfl : V.str m.1 = x := Option.some.inj hx
      refine he m (List.mem_of_getElem? e1) H' _ s fun t ht => ?_
      have st := same_new ht (.tup [.str m.1, .int m.2])
      have h5 := st _ _ h1
      have tl := tups_lst (o := .lst (qs.map (fun q => V.ref q.1) ++ [V.ref t])) h5
      refine ⟨h5, hN _ _ _ ⟨⟨_, rfl⟩, upd_off (s.trans st) hp, upd_same, qs ++ [(t, m)], ?_, ?_, ?_⟩⟩
      · rw [List.map_append]; rfl
      · rw [List.map_append, h3, take_snoc e1]; rfl
      · intro q hq
        rcases List.mem_append.mp hq with z | z
        · exact tl _ _ (st _ _ (h4 q z))
        · rw [List.mem_singleton.mp z]
          exact tl _ _ upd_same
  · rintro σ' ys H' ⟨_, s, h1, qs, rfl, h3, h4⟩
    refine hq H' qs s ?_ h1 h4
    rw [h3, List.take_of_length_le (by simp)]
def spTwo6 : Sp := fun vs H Q _ => ∃ (b g l : Addr) (n : Int), vs = [.ref b] ∧ Bag H b g l n ∧ n ≤ 10 ^ 6 ∧ ∀ (r p q : Addr) (w w' : List WP) (H' : Hp), H' r = some (.tup [.ref p, .ref q]) → WishAt H' p w → WishAt H' q w' → WDrawn w → WDrawn w' → Bag H' b g l (n + 1000) → SameB b g H H' → Q (.ref r) H'

end L2

set_option Elab.async false
set_option linter.all false
set_option maxRecDepth 100000
set_option exponentiation.threshold 2000
namespace L2
open PySem.W PyProof.Rows
/-! the sort's tree of questions, asked of a plain order -/
namespace KS
def sat {α : Type} (lt : Nat → Nat → Bool) (n : Nat) : KasT α → (α → Prop) → Prop
  | .ret a, Q => Q a
  | .ask i j k, Q => i < n ∧ j < n ∧ sat lt n (k (lt i j)) Q
variable {lt : Nat → Nat → Bool} {N : Nat}
theorem sat_bind {α β : Type} {f : α → KasT β} {Q : β → Prop} : ∀ (t : KasT α), sat lt N t (fun a => sat lt N (f a) Q) → sat lt N (t.bind f) Q
  | .ret _, h => h
  | .ask _ _ k, ⟨h1, h2, h⟩ => ⟨h1, h2, sat_bind (k _) h⟩
theorem sat_mono {α : Type} {Q Q' : α → Prop} (hq : ∀ a, Q a → Q' a) : ∀ (t : KasT α), sat lt N t Q → sat lt N t Q'
  | .ret a, h => hq a h
  | .ask _ _ k, ⟨h1, h2, h⟩ => ⟨h1, h2, sat_mono hq (k _) h⟩
structure Ord (lt : Nat → Nat → Bool) : Prop where
  as : ∀ a b, lt a b = true → lt b a = false
  tr : ∀ a b c, lt b a = false → lt c b = false → lt c a = false
theorem Ord.rfl' (O : Ord lt) (a : Nat) : lt a a = false := by
  cases h : lt a a with
  | false => rfl
  | true => exact (O.as a a h).symm.trans h ▸ rfl
abbrev K (p : Array Nat) (i : Nat) : Nat := p.getD i 0
structure Ok (N : Nat) (p : Array Nat) : Prop where
  perm : p.toList.Perm (List.range N)
theorem Ok.size {p : Array Nat} (h : Ok N p) : p.size = N := by
  have := h.perm.length_eq
  simpa using this
theorem Ok.below {p : Array Nat} (h : Ok N p) {i : Nat} (hi : i < N) : K p i < N := by
  have hs : i < p.size := by rw [h.size]; exact hi
  have : p.getD i 0 = p[i] := by simp [Array.getD, hs]
  show p.getD i 0 < N
  rw [this]
  have m : p[i] ∈ p.toList := by simp
  exact List.mem_range.mp (h.perm.mem_iff.mp m)
theorem Ok.of_perm {p q : Array Nat} (h : Ok N p) (e : q.Perm p) : Ok N q := ⟨(Array.perm_iff_toList_perm.mp e).trans h.perm⟩
theorem Ok.rev {p : Array Nat} (h : Ok N p) (i j : Nat) : Ok N (kas_rev p i j) := h.of_perm (mirror_perm _ _ _ _)
theorem Ok.bub {p : Array Nat} (h : Ok N p) (i j : Nat) : Ok N (bubble p i j) := h.of_perm (bubble_perm _ _ _)
theorem K_of {p q : Array Nat} {i j : Nat} (h : p[i]? = q[j]?) : K p i = K q j := by
  show p.getD i 0 = q.getD j 0
  rw [Array.getD_eq_getD_getElem?, Array.getD_eq_getD_getElem?, h]
theorem K_rev {p : Array Nat} (h : Ok N p) {i j : Nat} (hj : j ≤ N) (k : Nat) : K (kas_rev p i j) k = if i ≤ k ∧ k < j then K p (i + j - 1 - k) else K p k := by
  have e := getElem?_mirror_all (xs := p) (i := i) (j := j) (by rw [h.size]; exact hj) k
  split
  · rename_i c
    rw [if_pos c] at e
    exact K_of e
  · rename_i c
    rw [if_neg c] at e
    exact K_of e
theorem K_bub {p : Array Nat} (h : Ok N p) {k l : Nat} (hk : k < N) (hl : l ≤ k) (i : Nat) : K (bubble p k (k - l)) i = if i = l then K p k else if l < i ∧ i ≤ k then K p (i - 1) else K p i := by
  have e := getElem?_bubble (xs := p) (src := k) (by rw [h.size]; exact hk) (k - l) (by omega) i
  have e1 : k - (k - l) = l := by omega
  rw [e1] at e
  split
  · rename_i c
    rw [if_pos c] at e
    exact K_of e
  · rename_i c
    rw [if_neg c] at e
    split
    · rename_i d
      rw [if_pos d] at e
      exact K_of e
    · rename_i d
      rw [if_neg d] at e
      exact K_of e
def Srt (lt : Nat → Nat → Bool) (p : Array Nat) (m : Nat) : Prop := ∀ i j, i < j → j < m → lt (K p j) (K p i) = false
def Dsc (lt : Nat → Nat → Bool) (p : Array Nat) (m : Nat) : Prop := ∀ i j, i < j → j < m → lt (K p i) (K p j) = false
def Eqv (lt : Nat → Nat → Bool) (a b : Nat) : Prop := lt a b = false ∧ lt b a = false
theorem Eqv.symm {a b : Nat} (h : Eqv lt a b) : Eqv lt b a := ⟨h.2, h.1⟩
theorem Ord.refl (O : Ord lt) (a : Nat) : Eqv lt a a := ⟨O.rfl' a, O.rfl' a⟩
theorem Ord.eqv_trans (O : Ord lt) {a b c : Nat} (h : Eqv lt a b) (h' : Eqv lt b c) : Eqv lt a c := ⟨O.tr c b a h'.1 h.1, O.tr a b c h.2 h'.2⟩
theorem Ord.via (O : Ord lt) {a b a' b' : Nat} (h1 : Eqv lt a a') (h2 : Eqv lt b b') (h : lt a' b' = false) : lt a b = false :=
  O.tr b b' a h2.symm.1 (O.tr b' a' a h h1.1)
theorem asc_ok (O : Ord lt) {p : Array Nat} (h : Ok N p) : ∀ (f n : Nat), 1 ≤ n → n + f ≤ N → Srt lt p n →
    sat lt N (kas_asc p f n) (fun m => n ≤ m ∧ m ≤ n + f ∧ Srt lt p m ∧ (m < n + f → lt (K p m) (K p (m - 1)) = true))
  | 0, n, _, _, s => ⟨Nat.le_refl _, Nat.le_refl _, s, fun z => absurd z (by omega)⟩
  | f + 1, n, h1, h2, s => by
    refine ⟨h.below (by omega), h.below (by omega), ?_⟩
    cases c : lt (p.getD n 0) (p.getD (n - 1) 0) with
    | true => exact ⟨Nat.le_refl _, by omega, s, fun _ => c⟩
    | false =>
      show sat lt N (kas_asc p f (n + 1)) _
      refine sat_mono (fun m hm => ?_) _ (asc_ok O h f (n + 1) (by omega) (by omega) ?_)
      · obtain ⟨a1, a2, a3, a4⟩ := hm
        exact ⟨by omega, by omega, a3, fun z => a4 (by omega)⟩
      · intro i j hij hj
        by_cases hjn : j < n
        · exact s i j hij hjn
        · obtain rfl : j = n := by omega
          by_cases hi : i = j - 1
          · subst hi; exact c
          · exact O.tr _ (K p (j - 1)) _ (s i (j - 1) (by omega) (by omega)) c
theorem rev_eqv (O : Ord lt) {p : Array Nat} (h : Ok N p) {i j : Nat} (hj : j ≤ N) (he : ∀ k, i ≤ k → k < j → Eqv lt (K p k) (K p (j - 1))) (k : Nat) : Eqv lt (K (kas_rev p i j) k) (K p k) := by
  rw [K_rev h hj]
  split
  · rename_i c
    exact O.eqv_trans (he _ (by omega) (by omega)) (he k c.1 c.2).symm
  · exact O.refl _
theorem Dsc.eqv (O : Ord lt) {p q : Array Nat} {m : Nat} (h : Dsc lt p m) (e : ∀ k, Eqv lt (K q k) (K p k)) : Dsc lt q m := fun i j hij hj => O.via (e i) (e j) (h i j hij hj)
def EqT (lt : Nat → Nat → Bool) (p : Array Nat) (m q : Nat) : Prop := ∀ i, m - (q + 1) ≤ i → i < m → Eqv lt (K p i) (K p (m - 1))
theorem Dsc.snoc (O : Ord lt) {p : Array Nat} {n : Nat} (h1 : 1 ≤ n) (s : Dsc lt p n) (c : lt (K p (n - 1)) (K p n) = false) : Dsc lt p (n + 1) := by
  intro i j hij hj
  by_cases hjn : j < n
  · exact s i j hij hjn
  · obtain rfl : j = n := by omega
    by_cases hi : i = j - 1
    · subst hi; exact c
    · exact O.tr _ (K p (j - 1)) _ c (s i (j - 1) (by omega) (by omega))
theorem desc_ok (O : Ord lt) : ∀ (f : Nat) (p : Array Nat) (n q : Nat), Ok N p → q + 1 ≤ n → n + f ≤ N → Dsc lt p n → EqT lt p n q →
    sat lt N (kas_desc f p n q) (fun r => Ok N r.1 ∧ n ≤ r.2.1 ∧ r.2.1 ≤ n + f ∧ Dsc lt r.1 r.2.1 ∧ EqT lt r.1 r.2.1 r.2.2 ∧ r.2.2 + 1 ≤ r.2.1)
  | 0, p, n, q, h, h1, h2, s, e => ⟨h, Nat.le_refl _, Nat.le_refl _, s, e, h1⟩
  | f + 1, p, n, q, h, h1, h2, s, e => by
    refine ⟨h.below (by omega), h.below (by omega), ?_⟩
    cases c : lt (p.getD n 0) (p.getD (n - 1) 0) with
    | true =>
      have c' : lt (K p (n - 1)) (K p n) = false := O.as _ _ c
      have s' := s.snoc O (by omega) c'
      show sat lt N (if q > 0 then kas_desc f (kas_rev p (n - (q + 1)) n) (n + 1) 0 else kas_desc f p (n + 1) 0) _
      have t1 : ∀ p', EqT lt p' (n + 1) 0 := fun p' i hi1 hi2 => by
        obtain rfl : i = n := by omega
        exact O.refl _
      split
      · refine sat_mono (fun m hm => ?_) _ (desc_ok O f (kas_rev p (n - (q + 1)) n) (n + 1) 0 (h.rev _ _) (by omega) (by omega) (s'.eqv O (rev_eqv O h (by omega) e)) (t1 _))
        obtain ⟨a1, a2, a3, a4⟩ := hm
        exact ⟨a1, by omega, by omega, a4⟩
      · refine sat_mono (fun m hm => ?_) _ (desc_ok O f p (n + 1) 0 h (by omega) (by omega) s' (t1 _))
        obtain ⟨a1, a2, a3, a4⟩ := hm
        exact ⟨a1, by omega, by omega, a4⟩
    | false =>
      show sat lt N (KasT.ask (p.getD (n - 1) 0) (p.getD n 0) fun d => if d = true then KasT.ret (p, n, q) else kas_desc f p (n + 1) (q + 1)) _
      refine ⟨h.below (by omega), h.below (by omega), ?_⟩
      cases d : lt (p.getD (n - 1) 0) (p.getD n 0) with
      | true => exact ⟨h, Nat.le_refl _, by show n ≤ n + (f + 1); omega, s, e, h1⟩
      | false =>
        show sat lt N (kas_desc f p (n + 1) (q + 1)) _
        refine sat_mono (fun m hm => ?_) _ (desc_ok O f p (n + 1) (q + 1) h (by omega) (by omega) (s.snoc O (by omega) d) ?_)
        · obtain ⟨a1, a2, a3, a4⟩ := hm
          exact ⟨a1, by omega, by omega, a4⟩
        · intro i hi1 hi2
          have en : Eqv lt (K p (n - 1)) (K p n) := ⟨d, c⟩
          by_cases hin : i = n
          · subst hin; exact O.refl _
          · exact O.eqv_trans (e i (by omega) (by omega)) en
theorem tail_ok (O : Ord lt) {p : Array Nat} {n nrem : Nat} (h : Ok N p) (h1 : 1 ≤ n) (h2 : n ≤ nrem) (h3 : nrem ≤ N) (s : Dsc lt p n) :
    sat lt N (kas_tail3 n nrem p) (fun r => Ok N r.2 ∧ 1 ≤ r.1 ∧ r.1 ≤ nrem ∧ Srt lt r.2 r.1) := by
  unfold kas_tail3
  refine sat_bind _ (sat_mono (fun m hm => ?_) _ (asc_ok O (h.rev 0 n) (nrem - n) n h1 (by omega) ?_))
  · obtain ⟨a1, a2, a3, _⟩ := hm
    exact ⟨h.rev 0 n, by show 1 ≤ m; omega, by show m ≤ nrem; omega, a3⟩
  · intro i j hij hj
    rw [K_rev h (by omega), K_rev h (by omega), if_pos (by omega), if_pos (by omega)]
    exact s _ _ (by omega) (by omega)
theorem descPart_ok (O : Ord lt) {p : Array Nat} {n nrem : Nat} (h : Ok N p) (h1 : 1 ≤ n) (h2 : n + 1 ≤ nrem) (h3 : nrem ≤ N) (s : Dsc lt p (n + 1)) :
    sat lt N (kas_descPart n nrem p) (fun r => Ok N r.2 ∧ 1 ≤ r.1 ∧ r.1 ≤ nrem ∧ Srt lt r.2 r.1) := by
  unfold kas_descPart
  refine sat_bind _ (sat_mono (fun r hr => ?_) _ (desc_ok O (nrem - (n + 1)) p (n + 1) 0 h (by omega) (by omega) s fun i i1 i2 => ?_))
  · obtain ⟨a1, a2, a3, a4, a5, a6⟩ := hr
    split
    · exact tail_ok O (a1.rev _ _) (by omega) (by omega) h3 (a4.eqv O (rev_eqv O a1 (by omega) a5))
    · exact tail_ok O a1 (by omega) (by omega) h3 a4
  · obtain rfl : i = n := by omega
    exact O.refl _
theorem count_ok (O : Ord lt) {p : Array Nat} {nrem : Nat} (h : Ok N p) (h1 : 1 ≤ nrem) (h3 : nrem ≤ N) :
    sat lt N (kas_count nrem p) (fun r => Ok N r.2 ∧ 1 ≤ r.1 ∧ r.1 ≤ nrem ∧ Srt lt r.2 r.1) := by
  unfold kas_count
  refine sat_bind _ (sat_mono (fun n hn => ?_) _ (asc_ok O h (nrem - 1) 1 (Nat.le_refl _) (by omega) fun i j hij hj => absurd hj (by omega)))
  obtain ⟨a1, a2, a3, a4⟩ := hn
  split
  · exact ⟨h, a1, by show n ≤ nrem; omega, a3⟩
  · rename_i ne
    have hlt : n < nrem := by
      have : n ≠ nrem := fun z => ne (by rw [z]; simp)
      omega
    have c := a4 (by omega)
    have c' := O.as _ _ c
    split
    · refine ⟨h.below (by omega), h.below (by omega), ?_⟩
      cases d : lt (p.getD 0 0) (p.getD (n - 1) 0) with
      | true => exact ⟨h, a1, by show n ≤ nrem; omega, a3⟩
      | false =>
        show sat lt N (kas_descPart n nrem (kas_rev p 0 n)) _
        have al : ∀ k, 0 ≤ k → k < n → Eqv lt (K p k) (K p (n - 1)) := by
          intro k _ hk
          have u1 : lt (K p (n - 1)) (K p k) = false := by
            by_cases z : k = n - 1
            · subst z; exact O.rfl' _
            · exact a3 k (n - 1) (by omega) (by omega)
          have u0 : lt (K p k) (K p 0) = false := by
            by_cases z : k = 0
            · subst z; exact O.rfl' _
            · exact a3 0 k (by omega) hk
          exact ⟨O.tr _ (K p 0) _ d u0, u1⟩
        refine descPart_ok O (h.rev 0 n) a1 (by omega) h3 ?_
        have dn : Dsc lt p n := fun i j hij hj => O.via (al i (by omega) (by omega)) (al j (by omega) hj) (O.rfl' _)
        exact (dn.snoc O a1 c').eqv O (rev_eqv O h (by omega) al)
    · refine descPart_ok O h a1 (by omega) h3 ?_
      refine Dsc.snoc O a1 (fun i j hij hj => absurd hj (by omega)) c'
theorem place_ok (O : Ord lt) {p : Array Nat} (h : Ok N p) {k : Nat} (hk : k < N) (s : Srt lt p k) : ∀ (f l r : Nat), l ≤ r → r ≤ k → r - l ≤ f → (∀ i, i < l → lt (K p k) (K p i) = false) → (∀ i, r ≤ i → i < k → lt (K p k) (K p i) = true) →
    sat lt N (kas_place p k f l r) (fun L => L ≤ k ∧ (∀ i, i < L → lt (K p k) (K p i) = false) ∧ ∀ i, L ≤ i → i < k → lt (K p k) (K p i) = true)
  | 0, l, r, h1, h2, h3, a, b => by
    obtain rfl : l = r := by omega
    exact ⟨h2, a, b⟩
  | f + 1, l, r, h1, h2, h3, a, b => by
    unfold kas_place
    split
    · obtain rfl : l = r := by omega
      exact ⟨h2, a, b⟩
    · refine ⟨h.below hk, h.below (by omega), ?_⟩
      cases c : lt (p.getD k 0) (p.getD ((l + r) / 2) 0) with
      | true =>
        show sat lt N (kas_place p k f l ((l + r) / 2)) _
        refine place_ok O h hk s f l _ (by omega) (by omega) (by omega) a fun i i1 i2 => ?_
        cases d : lt (K p k) (K p i) with
        | true => rfl
        | false =>
          have : lt (K p k) (K p ((l + r) / 2)) = false := by
            by_cases z : i = (l + r) / 2
            · rw [← z]; exact d
            · exact O.tr _ (K p i) _ (s _ _ (by omega) i2) d
          rw [show lt (K p k) (K p ((l + r) / 2)) = true from c] at this
          cases this
      | false =>
        show sat lt N (kas_place p k f ((l + r) / 2 + 1) r) _
        refine place_ok O h hk s f _ r (by omega) h2 (by omega) (fun i hi => ?_) b
        by_cases z : i = (l + r) / 2
        · rw [z]; exact c
        · exact O.tr _ (K p ((l + r) / 2)) _ (s _ _ (by omega) (by omega)) c
theorem bin_ok (O : Ord lt) : ∀ (f : Nat) (p : Array Nat) (k : Nat), Ok N p → k + f ≤ N → 1 ≤ k → Srt lt p k → sat lt N (kas_bin f p k) (fun q => Ok N q ∧ Srt lt q (k + f))
  | 0, p, k, h, _, _, s => ⟨h, s⟩
  | f + 1, p, k, h, h1, h2, s => by
    unfold kas_bin
    refine sat_bind _ (sat_mono (fun l hl => ?_) _ (place_ok O h (by omega) s k 0 k (by omega) (Nat.le_refl _) (by omega) (fun i hi => absurd hi (by omega)) fun i i1 i2 => absurd i2 (by omega)))
    obtain ⟨l1, a, b⟩ := hl
    have e : k + 1 + f = k + (f + 1) := by omega
    rw [← e]
    refine bin_ok O f _ (k + 1) (h.bub k (k - l)) (by omega) (by omega) fun i j hij hj => ?_
    rw [K_bub h (by omega) l1, K_bub h (by omega) l1]
    by_cases jl : j = l
    · rw [if_pos jl, if_neg (by omega), if_neg (by omega)]
      exact a i (by omega)
    · rw [if_neg jl]
      by_cases jm : l < j ∧ j ≤ k
      · rw [if_pos jm]
        by_cases il : i = l
        · rw [if_pos il]
          exact O.as _ _ (b (j - 1) (by omega) (by omega))
        · rw [if_neg il]
          by_cases im : l < i ∧ i ≤ k
          · rw [if_pos im]
            exact s _ _ (by omega) (by omega)
          · rw [if_neg im]
            exact s _ _ (by omega) (by omega)
      · rw [if_neg jm, if_neg (by omega), if_neg (by omega)]
        exact s _ _ hij (by omega)
theorem sort_ok (O : Ord lt) (h1 : 1 ≤ N) : sat lt N (kas_sort N) (fun q => Ok N q ∧ Srt lt q N) := by
  unfold kas_sort
  refine sat_bind _ (sat_mono (fun r hr => ?_) _ (count_ok O (p := (List.range N).toArray) ⟨by simp⟩ h1 (Nat.le_refl _)))
  obtain ⟨a1, a2, a3, a4⟩ := hr
  split
  · have e : max r.1 1 = r.1 := by omega
    rw [e]
    refine sat_mono (fun q hq => ?_) _ (bin_ok O (N - r.1) r.2 r.1 a1 (by omega) a2 a4)
    rw [show r.1 + (N - r.1) = N by omega] at hq
    exact hq
  · have e : r.1 = N := by omega
    rw [e] at a4
    exact ⟨a1, a4⟩
open PySem in
theorem sat_wp {α : Type} {cmp : Nat → Nat → (Bool → Shared → Prop) → Shared → Prop} {Q : α → Prop} {G : α → Shared → Prop} {s : Shared} (hc : ∀ i j C, i < N → j < N → C (lt i j) s → cmp i j C s) (hq : ∀ a, Q a → G a s) :
    ∀ t : KasT α, sat lt N t Q → t.kasWp cmp G s
  | .ret a, h => hq a h
  | .ask i j k, ⟨h1, h2, h⟩ => hc i j _ h1 h2 (sat_wp hc hq (k _) h)
end KS
end L2

set_option Elab.async false
set_option linter.all false
set_option maxRecDepth 100000
set_option exponentiation.threshold 2000
set_option maxHeartbeats 1000000
/-! sorted(xs), xs a list of tuples -/
namespace L2
open PySem PySem.Spec PyProof.Rows PySem.W
section
variable {prog : Program} {w : World} {A : Around} {E : Value → Shared → Prop} {s : Shared}
def outOf (vs : List Value) (p : Array Nat) : Array Value := (p.toList.map fun i => vs.getD i Value.none).toArray
theorem list_sort_by {a : Addr} {vs : List Value} {n : Nat} {P : PySem.Fin → Shared → Prop} {κ : SortKind} {lt : Nat → Nat → Bool} (O : KS.Ord lt) (ho : s.heap.get? a = some (seqObj "list" vs.toArray n)) (h64 : vs.length < 64)
    (hk : 2 ≤ vs.length → ∀ h' : Heap, (∀ b o, b ≠ a → s.heap.get? b = some o → h'.get? b = some o) → ∀ Q : SortKind → Shared → Prop, Q κ { s with heap := h' } → wpAny (model prog w) A (keyKind' vs.toArray) Q E { s with heap := h' })
    (hc : ∀ h' : Heap, (∀ b o, b ≠ a → s.heap.get? b = some o → h'.get? b = some o) → ∀ i j, i < vs.length → j < vs.length → ∀ C : Bool → Shared → Prop, C (lt i j) { s with heap := h' } →
      wpAny (model prog w) A (keyLt' κ (vs.getD i Value.none) (vs.getD j Value.none)) C (fun _ _ => False) { s with heap := h' })
    (h : ∀ p : Array Nat, KS.Ok vs.length p → KS.Srt lt p vs.length → P (.done (.ret .none)) { s with heap := sortedHeap s.heap a vs (outOf vs p) }) :
    wpAny (model prog w) A (Builtin.«list.sort» ⟨[.ref a], []⟩) P E s := by
  rw [list_sort_plain]
  have ha : a < s.heap.objs.size := Heap.lt_size ho
  refine wpAny_bind (listItems_at ho rfl ?_)
  refine wpAny_bind (listUpdate_at ho rfl ?_ (by rw [List.size_toArray, sizeLine_eq]; omega) (Nat.zero_le _))
  obtain ⟨e1, ho1⟩ : ∃ e1, (s.heap.update a (Obj.mapSeq fun _ => #[])).get? a = some (seqObj "list" #[] e1) := ⟨_, get?_update_seq ho (fun _ => #[])⟩
  refine wpAny_bind (seqEpoch_at ho1 rfl ?_)
  refine wpAny_bind (wpAny_newTuple ?_ (by show vs.length ≤ _; rw [sizeLine_eq]; omega))
  refine wpAny_bind (wpAny_newList ?_ (Nat.zero_le _))
  refine wpAny_holding ?_
  have ho6 : (((s.heap.update a (Obj.mapSeq fun _ => #[])).push (seqObj "tuple" vs.toArray 0)).push (seqObj "list" #[] 0)).get? a = some (seqObj "list" #[] e1) := by
    rw [Heap.get?_push_ne _ _ _ (by rw [size_push', Heap.size_update]; exact Nat.ne_of_lt (Nat.lt_succ_of_lt ha)), Heap.get?_push_ne _ _ _ (by rw [Heap.size_update]; exact Nat.ne_of_lt ha)]
    exact ho1
  have kept : ∀ b o, b ≠ a → s.heap.get? b = some o → (((s.heap.update a (Obj.mapSeq fun _ => #[])).push (seqObj "tuple" vs.toArray 0)).push (seqObj "list" #[] 0)).get? b = some o := fun b o hb q => by
    have hlt := Heap.lt_size q
    rw [Heap.get?_push_ne _ _ _ (by rw [size_push', Heap.size_update]; exact Nat.ne_of_lt (Nat.lt_succ_of_lt hlt)), Heap.get?_push_ne _ _ _ (by rw [Heap.size_update]; exact Nat.ne_of_lt hlt), Heap.get?_update_ne _ _ _ _ hb]
    exact q
  show wpAny (model prog w) A _ P E { s with heap := ((s.heap.update a (Obj.mapSeq fun _ => #[])).push (seqObj "tuple" vs.toArray 0)).push (seqObj "list" #[] 0) }
  dsimp only
  have hsz : vs.toArray.size = vs.length := by simp
  by_cases h2 : vs.toArray.size < 2
  · rw [if_pos h2, if_pos h2]
    refine wpAny_bind (wpAny_pure ?_)
    rw [StateT.run_pure]
    refine wpAny_bind (wpAny_pure ?_)
    dsimp only
    refine wpAny_bind (seqEpoch_at ho6 rfl ?_)
    refine wpAny_bind (listUpdate_at ho6 rfl ?_ (hsz2 := by rw [Array.size_map]; show (pairsOf vs).size ≤ _; rw [pairsOf_size, sizeLine_eq]; omega))
    simp only [bne_self_eq_false, Bool.false_eq_true, if_false]
    have hp := h (List.range vs.length).toArray ⟨by simp⟩ (fun i j hij hj => absurd hj (by rw [hsz] at h2; omega))
    have e : (arrOf (SortSt.mk' general' (vs.toArray.zip vs.toArray) #[] 7 none)).map (·.2) = outOf vs (List.range vs.length).toArray := by
      have e1 := kas_range (vs.toArray.zip vs.toArray)
      have e2 : (vs.toArray.zip vs.toArray).size = vs.length := by simp
      rw [e2] at e1
      exact kat_snds (ks := vs) rfl (st := SortSt.mk' general' (vs.toArray.zip vs.toArray) #[] 7 none) (p := (List.range vs.length).toArray) e1.symm
    refine wpAny_pure ?_
    show P _ { s with heap := sortedHeap s.heap a vs ((arrOf (SortSt.mk' general' (vs.toArray.zip vs.toArray) #[] 7 none)).map (·.2)) }
    rw [e]
    exact hp
  · rw [if_neg h2, if_neg h2]
    rw [hsz] at h2
    refine wpAny_bind (hk (by omega) _ kept _ ?_)
    have tree : (kas_sort vs.length).kasWp (kas_ask prog w A κ vs) (fun p s' => s' = { s with heap := ((s.heap.update a (Obj.mapSeq fun _ => #[])).push (seqObj "tuple" vs.toArray 0)).push (seqObj "list" #[] 0) } ∧ KS.Ok vs.length p ∧ KS.Srt lt p vs.length)
        { s with heap := ((s.heap.update a (Obj.mapSeq fun _ => #[])).push (seqObj "tuple" vs.toArray 0)).push (seqObj "list" #[] 0) } :=
      KS.sat_wp (fun i j C hi hj hC => hc _ kept i j hi hj C hC) (fun p hp => ⟨rfl, hp⟩) _ (KS.sort_ok O (by omega))
    refine wpAny_bind (wpAny_mono (kat_run (Q := fun st' s' => ∃ p : Array Nat, p.size = vs.length ∧ arrOf st' = p.map (kas_item (vs.toArray.zip vs.toArray)) ∧ failedOf st' = none ∧ s' = { s with heap := ((s.heap.update a (Obj.mapSeq fun _ => #[])).push (seqObj "tuple" vs.toArray 0)).push (seqObj "list" #[] 0) } ∧ KS.Ok vs.length p ∧ KS.Srt lt p vs.length)
      rfl (by omega) h64 (fun p' st' s' a1 a2 a3 a4 => ⟨p', a1, a2, a3, a4⟩) tree) ?_ fun _ _ e => e)
    rintro ⟨⟨⟩, st'⟩ s' ⟨p, hp, har, hf, rfl, ok, srt⟩
    dsimp only
    have hout := kat_snds rfl har
    refine wpAny_bind (seqEpoch_at ho6 rfl ?_)
    refine wpAny_bind (listUpdate_at ho6 rfl ?_ (hsz2 := by rw [hout]; show (p.toList.map fun i => vs.getD i Value.none).length ≤ _; rw [List.length_map, Array.length_toList, hp, sizeLine_eq]; omega))
    rw [hf]
    simp only [bne_self_eq_false, Bool.false_eq_true, if_false]
    rw [hout]
    exact wpAny_pure (h p ok srt)

theorem sorted_by {l : Addr} {vs : List Value} {Q : Value → Shared → Prop} {κ : SortKind} {lt : Nat → Nat → Bool} (O : KS.Ord lt) (hl : s.heap.IsList l vs.toArray) (h64 : vs.length < 64)
    (hk : 2 ≤ vs.length → ∀ h' : Heap, (∀ b o, s.heap.get? b = some o → h'.get? b = some o) → ∀ (A : Around) (E : Value → Shared → Prop) (Q : SortKind → Shared → Prop), Q κ { s with heap := h' } → wpAny (model prog w) A (keyKind' vs.toArray) Q E { s with heap := h' })
    (hc : ∀ h' : Heap, (∀ b o, s.heap.get? b = some o → h'.get? b = some o) → ∀ i j, i < vs.length → j < vs.length → ∀ C : Bool → Shared → Prop, C (lt i j) { s with heap := h' } →
      wpAny (model prog w) A.in1.in1 (keyLt' κ (vs.getD i Value.none) (vs.getD j Value.none)) C (fun _ _ => False) { s with heap := h' })
    (h : ∀ p : Array Nat, KS.Ok vs.length p → KS.Srt lt p vs.length → Q (.ref (s.heap.objs.size + 1)) { s with heap := sortedAll s.heap vs (outOf vs p) }) :
    wpAny (model prog w) A (call (.builtin "sorted") [.ref l]) Q E s := by
  refine Calls.call_function_entry kind_sorted plain_sorted entry_sorted (args_sorted1 _) ?_
  unfold Builtin.«sorted»
  refine wpAny_bind (m := checkCount "sorted" 1 1 _) (wpAny_pure ?_)
  refine wpAny_bind (collect_list hl ?_ (by rw [sizeLine_eq]; omega))
  refine wpAny_bind (wpAny_newList ?_ (by rw [sizeLine_eq]; omega))
  have hsz : ((s.heap.push (seqObj "list" #[] 0)).update s.heap.objs.size (Obj.mapSeq (· ++ vs.toArray))).objs.size = s.heap.objs.size + 1 := by
    rw [Heap.size_update, size_push']
  have hoL : (((s.heap.push (seqObj "list" #[] 0)).update s.heap.objs.size (Obj.mapSeq (· ++ vs.toArray))).push (seqObj "list" vs.toArray 0)).get? (s.heap.objs.size + 1) = some (seqObj "list" vs.toArray 0) := by
    rw [← hsz]; exact Heap.get?_push_size _ rfl
  have keep : ∀ b o, s.heap.get? b = some o → (((s.heap.push (seqObj "list" #[] 0)).update s.heap.objs.size (Obj.mapSeq (· ++ vs.toArray))).push (seqObj "list" vs.toArray 0)).get? b = some o := fun b o q => by
    have hlt : b < s.heap.objs.size := Heap.lt_size q
    rw [Heap.get?_push_ne _ _ _ (by rw [hsz]; exact Nat.ne_of_lt (Nat.lt_succ_of_lt hlt)), Heap.get?_update_ne _ _ _ _ (Nat.ne_of_lt hlt), Heap.get?_push_ne _ _ _ (Nat.ne_of_lt hlt)]
    exact q
  have ne : ∀ b o, s.heap.get? b = some o → b ≠ s.heap.objs.size + 1 := fun b o q => Nat.ne_of_lt (Nat.lt_succ_of_lt (Heap.lt_size q))
  show wpAny _ _ _ _ _ { s with heap := ((s.heap.push (seqObj "list" #[] 0)).update s.heap.objs.size (Obj.mapSeq (· ++ vs.toArray))).push (seqObj "list" vs.toArray 0) }
  rw [hsz]
  refine wpAny_bind (wpAny_holding (wpAny_call_entry slot_list_sort ⟨_, hoL, rfl⟩ entry_list_sort (list_sort_by (s := { s with heap := ((s.heap.push (seqObj "list" #[] 0)).update s.heap.objs.size (Obj.mapSeq (· ++ vs.toArray))).push (seqObj "list" vs.toArray 0) }) O hoL h64
    (fun h2 h' kp Q' q => hk h2 h' (fun b o e => kp b o (ne b o e) (keep b o e)) _ _ Q' q) (fun h' kp i j hi hj C q => hc h' (fun b o e => kp b o (ne b o e) (keep b o e)) i j hi hj C q) fun p ok srt => ⟨_, rfl, ?_⟩) (args_list_sort _)))
  exact wpAny_pure ⟨_, rfl, h p ok srt⟩
end
end L2

set_option Elab.async false
set_option linter.all false
set_option maxRecDepth 100000
set_option exponentiation.threshold 2000
set_option maxHeartbeats 1000000
namespace L2
open PySem PySem.Spec PyProof.Rows PySem.W
theorem vals_refs {α : Type} {f : α → Addr} : ∀ {ps : List α} {us : List Value}, Vals (ps.map fun p => V.ref (f p)) us → us = ps.map fun p => Value.ref (f p)
  | [], _, h => by cases h; rfl
  | p :: ps, _, h => by
    rw [List.map_cons] at h
    cases h with
    | cons r h =>
      obtain rfl : _ = Value.ref (f p) := r
      rw [vals_refs h]
      rfl
theorem nodup_inj {α : Type} {l : List α} (h : l.Nodup) {i j : Nat} (hi : i < l.length) (hj : j < l.length) (e : l[i] = l[j]) : i = j := by
  rcases Nat.lt_trichotomy i j with u | u | u
  · exact absurd e (List.pairwise_iff_getElem.mp h i j hi hj u)
  · exact u
  · exact absurd e.symm (List.pairwise_iff_getElem.mp h j i hj hi u)
/-- a list ordered by texts -/
theorem lt_asym {x y : List Nat} (h : x < y) : ¬ y < x := fun h' => List.lt_irrefl x (List.lt_trans h h')
theorem le_tr {x y z : List Nat} (h1 : ¬ y < x) (h2 : ¬ z < y) : ¬ z < x := fun h => by
  rcases Std.lt_trichotomy (α := List Nat) x y with e | e | e
  · exact h2 (List.lt_trans h e)
  · subst e; exact h2 h
  · exact h1 e
theorem ord_of (k : Nat → List Nat) : KS.Ord (fun i j => decide (k i < k j)) :=
  ⟨fun a b h => decide_eq_false (lt_asym (of_decide_eq_true h)), fun a b c h1 h2 => decide_eq_false (le_tr (of_decide_eq_false h1) (of_decide_eq_false h2))⟩
abbrev TI3 := Addr × Str × Int
def d3 : TI3 := (0, "", 0)
theorem perm_get {α : Type} (d : α) {ps : List α} {p : Array Nat} (h : KS.Ok ps.length p) : (p.toList.map fun i => ps.getD i d).Perm ps := by
  have e : (List.range ps.length).map (fun i => ps.getD i d) = ps := by
    apply List.ext_getElem
    · simp
    · intro i h1 h2
      simp [h2]
  have := h.perm.map (fun i => ps.getD i d)
  rw [e] at this
  exact this
theorem getD_map {α β : Type} (f : α → β) (d : α) (e : β) (ps : List α) {i : Nat} (h : i < ps.length) : (ps.map f).getD i e = f (ps.getD i d) := by
  simp [h]
section
variable {X : Cx}
/-- sorted(xs) of a list of tuples (text, number), the texts unlike, fewer than 64 -/
def rSortT (K : PySem.W.Frag) : List V → Hp → VK → Prop := fun xs H Q => ∃ (a : Addr) (ps : List TI3), xs = [.ref a] ∧ SqL K H a (ps.map fun p => V.ref p.1) ∧ (∀ p ∈ ps, H p.1 = some (.tup [.str p.2.1, .int p.2.2])) ∧ ps.length < 64 ∧ (ps.map (·.2.1)).Nodup ∧
  ∀ (r : Addr) (qs : List TI3), qs.Perm ps → (qs.map (·.2.1)).Pairwise ltF → H r = none → Q (.ref r) (upd H r (.lst (qs.map fun q => V.ref q.1)))
theorem tup_obj {H : Hp} {s : Shared} {pins : List (Addr × Obj)} {σ : St} (I : Inv X pins σ H s) {p : TI3} (h : H p.1 = some (.tup [.str p.2.1, .int p.2.2])) : ∃ o n t u, s.heap.get? p.1 = some o ∧ o.cls = .type "tuple" ∧ o.data = .seq #[.str p.2.1 t, .int p.2.2 u] n := by
  obtain ⟨z, its, r, o, e, c, _, n, hd⟩ := (show ObjOk X.prog X.w H s.heap p.1 (.tup [.str p.2.1, .int p.2.2]) from I.hok _ _ h)
  cases r with
  | cons r1 r =>
    cases r with
    | cons r2 r =>
      cases r
      obtain ⟨t, rfl⟩ := r1
      obtain ⟨u, rfl⟩ := r2
      exact ⟨o, n, t, u, e, c, hd⟩
theorem firsts_of {h : Heap} : ∀ (ps : List TI3), (∀ p ∈ ps, ∃ o n t u, h.get? p.1 = some o ∧ o.cls = .type "tuple" ∧ o.data = .seq #[.str p.2.1 t, .int p.2.2 u] n) → ∃ fs : List Value, KatTups h (ps.map fun p => Value.ref p.1) fs ∧ fs.length = ps.length ∧ ∀ v ∈ fs, ∃ x t, v = Value.str x t
  | [], _ => ⟨[], .nil, rfl, fun v hv => by simp at hv⟩
  | p :: ps, hp => by
    obtain ⟨fs, h1, h2, h3⟩ := firsts_of ps fun q hq => hp q (List.mem_cons_of_mem _ hq)
    obtain ⟨o, n, t, u, e, c, d⟩ := hp p List.mem_cons_self
    refine ⟨.str p.2.1 t :: fs, .cons e c d rfl h1, by rw [List.length_cons, h2, List.length_cons], fun v hv => ?_⟩
    rcases List.mem_cons.mp hv with z | z
    · exact ⟨_, _, z⟩
    · exact h3 v z
theorem call_sortedT : CallR X (.builtin "sorted") (rSortT X.K) := by
  intro pins s σ H xs us Q I r h
  obtain ⟨a, ps, rfl, hq, hT, h64, nd, q⟩ := h
  obtain ⟨u, rfl, rx⟩ := vals1 r
  cases rx
  obtain ⟨its, rv, ht, hz⟩ := I.list hq
  obtain rfl := vals_refs rv
  have hl : (ps.map fun p => Value.ref p.1).length = ps.length := List.length_map _
  have obj : ∀ p ∈ ps, ∃ o n t u, s.heap.get? p.1 = some o ∧ o.cls = .type "tuple" ∧ o.data = .seq #[.str p.2.1 t, .int p.2.2 u] n := fun p hp => tup_obj I (hT p hp)
  have memD : ∀ i, i < ps.length → ps.getD i d3 ∈ ps := fun i hi => by
    have : ps.getD i d3 = ps[i] := by simp [hi]
    rw [this]
    exact List.getElem_mem _
  refine sorted_by (κ := tuples' true) (lt := fun i j => decide ((ps.getD i d3).2.1.cps.toList < (ps.getD j d3).2.1.cps.toList)) (ord_of _) ht.isList (by omega) (fun h2 h' kp A E Q' q' => ?_) (fun h' kp i j hi hj C hC => ?_) fun p ok srt => ?_
  · obtain ⟨fs, f1, f2, f3⟩ := firsts_of (h := h') ps fun p hp => by
      obtain ⟨o, n, t, u, e, c, d⟩ := obj p hp
      exact ⟨o, n, t, u, kp _ _ e, c, d⟩
    exact kat_kind (s := { s with heap := h' }) (T := .type "str") f1 (by omega) (fun v hv => by obtain ⟨x, t, rfl⟩ := f3 v hv; exact Looks.of_pure rfl) (by rfl) q'
  · rw [hl] at hi hj
    rw [getD_map _ d3 _ _ hi, getD_map _ d3 _ _ hj]
    obtain ⟨o, n, t, u, e, c, d⟩ := obj _ (memD i hi)
    obtain ⟨o', n', t', u', e', c', d'⟩ := obj _ (memD j hj)
    refine kat_lt (s := { s with heap := h' }) (kp _ _ e) d (kp _ _ e') d' (kat_cons (eqBool_str ?_))
    by_cases hij : i = j
    · subst hij
      rw [beq_self_eq_true]
      refine kat_yes (kat_cons (wpAny_eqBool_int ?_))
      rw [beq_self_eq_true]
      refine kat_yes (kat_nil ?_)
      have : decide ((ps.getD i d3).2.1.cps.toList < (ps.getD i d3).2.1.cps.toList) = false := decide_eq_false (List.lt_irrefl _)
      rw [this] at hC
      simpa using hC
    · have ne : ¬ (ps.getD i d3).2.1 = (ps.getD j d3).2.1 := fun z => by
        have g1 : ps.getD i d3 = ps[i] := by simp [hi]
        have g2 : ps.getD j d3 = ps[j] := by simp [hj]
        rw [g1, g2] at z
        exact hij (nodup_inj nd (i := i) (j := j) (by rw [List.length_map]; exact hi) (by rw [List.length_map]; exact hj) (by simpa using z))
      rw [beq_eq_false_iff_ne.mpr ne]
      exact kat_no (oneLt_str hC)
  · obtain ⟨e, he⟩ := sortedAll_at s.heap (ps.map fun p => Value.ref p.1) (outOf (ps.map fun p => Value.ref p.1) p)
    have hn : H (s.heap.objs.size + 1) = none := I.hok.fresh (Nat.le_succ _)
    rw [hl] at ok srt
    have pm := perm_get d3 ok
    have hlen := pm.length_eq
    have sz := ok.size
    have eo : outOf (ps.map fun p => Value.ref p.1) p = ((p.toList.map fun i => ps.getD i d3).map fun q => Value.ref q.1).toArray := by
      unfold outOf
      rw [List.map_map]
      congr 1
      refine List.map_congr_left fun i hi => ?_
      have hi' : i < ps.length := List.mem_range.mp (ok.perm.mem_iff.mp hi)
      rw [getD_map _ d3 _ _ hi']
      rfl
    rw [eo] at he ⊢
    refine ⟨.ref (s.heap.objs.size + 1), upd H (s.heap.objs.size + 1) (.lst ((p.toList.map fun i => ps.getD i d3).map fun q => V.ref q.1)), I.laid (t' := s.toks) (fun b o e => sortedAll_old e) (Nat.le_succ _) ?_, rfl, q _ _ pm ?_ hn⟩
    · have hz' : ps.length ≤ sizeLine := by rw [List.length_map] at hz; exact hz
      refine ⟨by rw [List.length_map]; omega, _, e, ?_, he⟩
      have : ∀ qs : List TI3, Vals (qs.map fun q => V.ref q.1) (qs.map fun q => Value.ref q.1) := fun qs => by
        induction qs with
        | nil => exact .nil
        | cons q qs ih => exact .cons rfl ih
      exact this _
    · rw [List.pairwise_iff_getElem]
      intro i j hi hj hij
      simp only [List.length_map, Array.length_toList] at hi hj
      simp only [List.getElem_map, Array.getElem_toList]
      have s1 := srt i j hij (by omega)
      have k1 : KS.K p i = p[i] := by show p.getD i 0 = _; simp [Array.getD, hi]
      have k2 : KS.K p j = p[j] := by show p.getD j 0 = _; simp [Array.getD, hj]
      rw [k1, k2] at s1
      have s2 : ¬ (ps.getD p[j] d3).2.1.cps.toList < (ps.getD p[i] d3).2.1.cps.toList := of_decide_eq_false s1
      have nd2 : ((p.toList.map fun i => ps.getD i d3).map (·.2.1)).Nodup := (pm.map _).nodup_iff.mpr nd
      refine ltF_tri s2 fun z => ?_
      have := nodup_inj nd2 (i := j) (j := i) (by simpa using hj) (by simpa using hi) (by simpa using z)
      omega
end
end L2

set_option Elab.async false
set_option linter.all false
set_option maxRecDepth 100000
set_option exponentiation.threshold 2000
set_option maxHeartbeats 1000000
/-! tuples cut and put together, whatever is empty or whole -/
namespace L2
open PySem PySem.Spec PyProof.Rows PySem.W
section
variable {X : Cx}
def rCatU : R2 := fun x y H Q => ∃ a b xs ys, x = .ref a ∧ y = .ref b ∧ H a = some (.tup xs) ∧ H b = some (.tup ys) ∧ xs.length + ys.length ≤ sizeLine ∧ ∀ p H', Same H H' → H' p = some (.tup (xs ++ ys)) → Q (.ref p) H'
theorem op_catU : OpR X (binaryOp .Add) rCatU := by
  intro pins s σ H x y v u Q I rx ry h
  obtain ⟨a, b, xs, ys, rfl, rfl, ha, hb, hz, q⟩ := h
  cases rx
  cases ry
  obtain ⟨its, r1, p1, _⟩ := I.tuple (SqT.of ha)
  obtain ⟨its2, r2, p2, _⟩ := I.tuple (SqT.of hb)
  by_cases hx : xs = []
  · subst hx
    cases r1
    obtain ⟨⟨cls, dd, data, sl⟩, ho, hc, n, hd⟩ := id p1
    obtain ⟨⟨cls2, dd2, data2, sl2⟩, ho2, hc2, n2, hd2⟩ := id p2
    simp only at hc hd hc2 hd2
    subst hc hd hc2 hd2
    exact concat_meets ⟨_, ho, rfl⟩ ⟨_, ho2, rfl⟩ noFill_tuple_add seq_tuple_add PySem.F.slot_tuple_add PySem.F.entry_tuple_add (PySem.F.args_tuple_add_2 _ _)
      (tuple_addW0 a b _ _ n n2 dd dd2 sl sl2 rfl) ⟨ho, ho2, ⟨.ref b, H, I, rfl, q b H (Same.refl _) hb⟩⟩
  · refine HT.cat_tup p1 p2 (fun z => hx (r1.nil_iff.mp z)) (fun z => ⟨.ref a, H, I, rfl, q a H (Same.refl _) (by rw [r2.nil_iff.mp z, List.append_nil]; exact ha)⟩) (fun z => ?_) (by rw [← r1.length, ← r2.length]; exact hz)
    have hn := I.hok.fresh (Nat.le_refl _)
    refine ⟨.ref s.heap.objs.size, _, I.laid (t' := s.toks) (o := .tup (xs ++ ys)) (fun b ob q => Heap.get?_push_of_some _ q) (Nat.le_refl _) ?_, rfl, q _ _ (same_new hn _) upd_same⟩
    exact ⟨by rw [List.length_append]; exact hz, _, r1.append r2, IsTupP.new _ _⟩
def rSlU : V → Option Int → Option Int → Hp → VK → Prop := fun x lo hi H Q => ∃ a xs, x = .ref a ∧ H a = some (.tup xs) ∧ ∀ p H', Same H H' → H' p = some (.tup (cutV xs lo hi)) → Q (.ref p) H'
theorem cutV_whole {xs : List V} {lo hi : Option Int} (h : HT.sIx xs.length 0 lo = 0 ∧ HT.sIx xs.length xs.length hi = xs.length) : cutV xs lo hi = xs := by
  unfold cutV
  rw [h.1, h.2, List.drop_zero, Nat.sub_zero]
  exact List.take_of_length_le (Nat.le_refl _)
theorem sl_tupU : SlR X rSlU := by
  intro pins s σ H x v vl vu lo hi sl Q I rx hs pl pu h
  obtain ⟨a, xs, rfl, ha, q⟩ := h
  exact sl_tupW pins s σ H (.ref a) v vl vu lo hi sl Q I rx hs pl pu ⟨a, xs, rfl, SqT.of ha, fun hw => q a H (Same.refl _) (by rw [cutV_whole hw]; exact ha), fun _ p hp => q p _ (same_new hp _) upd_same⟩
theorem cutV_take {xs : List V} {k : Int} {n : Nat} (e : k = (n : Int)) : cutV xs none (some k) = xs.take n := by
  subst e
  unfold cutV
  rw [HT.sIx_none, HT.sIx_nat, List.drop_zero, Nat.sub_zero]
  by_cases h : n ≤ xs.length
  · rw [Nat.min_eq_left h]
  · rw [Nat.min_eq_right (by omega), List.take_of_length_le (Nat.le_refl _), List.take_of_length_le (by omega)]
theorem cutV_drop {xs : List V} {k : Int} {n : Nat} (e : k = (n : Int)) : cutV xs (some k) none = xs.drop n := by
  subst e
  unfold cutV
  rw [HT.sIx_none, HT.sIx_nat]
  by_cases h : n ≤ xs.length
  · rw [Nat.min_eq_left h]
    exact List.take_of_length_le (by simp)
  · rw [Nat.min_eq_right (by omega), Nat.sub_self, List.take_zero, List.drop_eq_nil_of_le (by omega)]
end
end L2

set_option Elab.async false
set_option linter.all false
set_option maxRecDepth 100000
set_option exponentiation.threshold 2000
set_option maxHeartbeats 1000000
/-! what k05 draws -/
namespace L2
open PySem PySem.Spec PyProof.Rows
/-- two statements, by what holds between them -/
theorem seq_join {t u : TS} {D : Ends} {σ : St} {H : Hp} (M : St → Hp → Prop) (h1 : ∀ Z : St → Hp → Prop, (∀ σ' H', M σ' H' → Z σ' H') → t { D with nx := Z } σ H) (h2 : ∀ σ' H', M σ' H' → u D σ' H') : tSeq t u D σ H := h1 (u D) h2
theorem name_then {i : Nat} {v : V} {σ : St} {H : Hp} {Q : St → Hp → Prop} (h : Q (σ.set i (some v)) H) : gName i v σ H Q := h
/-- a test's outcome, then the branch -/
theorem seq_if {c : TT} {t u v : TS} {D : Ends} {σ : St} {H : Hp} (M : Bool → Hp → Prop) (h : ∀ R : Bool → Hp → Prop, (∀ b H', M b H' → R b H') → c σ H R) (k1 : ∀ H', M true H' → t { D with nx := v D } σ H') (k2 : ∀ H', M false H' → u { D with nx := v D } σ H') : tSeq (tIfS c t u) v D σ H :=
  h _ fun b H' m => by cases b with | true => exact iteT (k1 H' m) | false => exact iteF (k2 H' m)
theorem WishAt.tyN {H : Hp} {a : Addr} {w : List WP} (h : WishAt H a w) : ∃ xs, H a = some (.tup xs) ∧ xs.length = w.length := by
  obtain ⟨ps, rfl, e, _⟩ := h
  exact ⟨_, e, by simp⟩
theorem PieceAt.tyN {H : Hp} {a : Addr} {w : List PP} (h : PieceAt H a w) : ∃ xs, H a = some (.tup xs) ∧ xs.length = w.length := by
  obtain ⟨ps, rfl, e, _⟩ := h
  exact ⟨_, e, by simp⟩
theorem rep_piece {K : PySem.W.Frag} {H : Hp} : ∀ qs : List (Addr × PP), (∀ q ∈ qs, H q.1 = some (.tup [.str q.2.1, .int q.2.2])) → Reps K H (qs.map fun q => PD.tup [.str q.2.1, .int q.2.2]) (qs.map fun q => V.ref q.1)
  | [], _ => by show Reps K H [] []; rw [Reps]
  | q :: qs, h => by
    show Reps K H (.tup [.str q.2.1, .int q.2.2] :: qs.map fun q => PD.tup [.str q.2.1, .int q.2.2]) (.ref q.1 :: qs.map fun q => V.ref q.1)
    rw [Reps]
    refine ⟨_, _, rfl, ?_, rep_piece qs fun p hp => h p (List.mem_cons_of_mem _ hp)⟩
    rw [Rep]
    refine ⟨q.1, _, rfl, SqT.of (h q List.mem_cons_self), ?_⟩
    rw [Reps]
    refine ⟨_, _, rfl, by rw [Rep], ?_⟩
    rw [Reps]
    exact ⟨_, _, rfl, by rw [Rep], by rw [Reps]⟩
theorem depth_piece : ∀ qs : List (Addr × PP), depthDs (qs.map fun q => PD.tup [.str q.2.1, .int q.2.2]) ≤ 1
  | [] => by show depthDs [] ≤ 1; rw [depthDs]; decide
  | q :: qs => by
    show depthDs (.tup [.str q.2.1, .int q.2.2] :: qs.map fun q => PD.tup [.str q.2.1, .int q.2.2]) ≤ 1
    have := depth_piece qs
    rw [depthDs, depthD, depthDs, depthDs, depthDs, depthD, depthD]
    · omega
    all_goals simp
theorem eqNilP {K : PySem.W.Frag} {H : Hp} {a p : Addr} {w : List PP} {Q : VK} (h : PieceAt H a w) (hp : H p = some (.tup [])) (q : Q (.bl w.isEmpty) H) : rEqD K (.ref a) (.ref p) H Q := by
  obtain ⟨qs, rfl, e, f⟩ := h
  refine ⟨.tup (qs.map fun q => PD.tup [.str q.2.1, .int q.2.2]), .tup [], by rw [Rep]; exact ⟨a, _, rfl, SqT.of e, rep_piece qs f⟩, by rw [Rep]; exact ⟨p, _, rfl, SqT.of hp, by rw [Reps]⟩, by rw [depthD]; have := depth_piece qs; omega, ?_⟩
  cases qs with
  | nil => rw [pyEq]; rw [show pyEqs (([] : List (Addr × PP)).map fun q => PD.tup [.str q.2.1, .int q.2.2]) [] = true from pyEqs_refl []]; exact q
  | cons n ns => rw [pyEq, pyEqs_len (by simp)]; exact q
theorem rep_wish {K : PySem.W.Frag} {H : Hp} : ∀ qs : List (Addr × WP), (∀ q ∈ qs, H q.1 = some (.tup [.str q.2.1, eV q.2.2.1, eV q.2.2.2])) → Reps K H (qs.map fun q => PD.tup [.str q.2.1, dE q.2.2.1, dE q.2.2.2]) (qs.map fun q => V.ref q.1)
  | [], _ => by show Reps K H [] []; rw [Reps]
  | q :: qs, h => by
    show Reps K H (.tup [.str q.2.1, dE q.2.2.1, dE q.2.2.2] :: qs.map fun q => PD.tup [.str q.2.1, dE q.2.2.1, dE q.2.2.2]) (.ref q.1 :: qs.map fun q => V.ref q.1)
    rw [Reps]
    refine ⟨_, _, rfl, ?_, rep_wish qs fun p hp => h p (List.mem_cons_of_mem _ hp)⟩
    rw [Rep]
    refine ⟨q.1, _, rfl, SqT.of (h q List.mem_cons_self), ?_⟩
    rw [Reps]
    refine ⟨_, _, rfl, by rw [Rep], ?_⟩
    rw [Reps]
    refine ⟨_, _, rfl, rep_eV _, ?_⟩
    rw [Reps]
    exact ⟨_, _, rfl, rep_eV _, by rw [Reps]⟩
theorem depth_wish : ∀ qs : List (Addr × WP), depthDs (qs.map fun q => PD.tup [.str q.2.1, dE q.2.2.1, dE q.2.2.2]) ≤ 1
  | [] => by show depthDs [] ≤ 1; rw [depthDs]; decide
  | q :: qs => by
    show depthDs (.tup [.str q.2.1, dE q.2.2.1, dE q.2.2.2] :: qs.map fun q => PD.tup [.str q.2.1, dE q.2.2.1, dE q.2.2.2]) ≤ 1
    have := depth_wish qs
    rw [depthDs, depthD, depthDs, depthDs, depthDs, depthDs, depthD, depth_dE, depth_dE]
    · omega
    all_goals simp
theorem eqNilW {K : PySem.W.Frag} {H : Hp} {a p : Addr} {w : List WP} {Q : VK} (h : WishAt H a w) (hp : H p = some (.tup [])) (q : Q (.bl w.isEmpty) H) : rEqD K (.ref a) (.ref p) H Q := by
  obtain ⟨qs, rfl, e, f⟩ := h
  refine ⟨.tup (qs.map fun q => PD.tup [.str q.2.1, dE q.2.2.1, dE q.2.2.2]), .tup [], by rw [Rep]; exact ⟨a, _, rfl, SqT.of e, rep_wish qs f⟩, by rw [Rep]; exact ⟨p, _, rfl, SqT.of hp, by rw [Reps]⟩, by rw [depthD]; have := depth_wish qs; omega, ?_⟩
  cases qs with
  | nil => rw [pyEq]; rw [show pyEqs (([] : List (Addr × WP)).map fun q => PD.tup [.str q.2.1, dE q.2.2.1, dE q.2.2.2]) [] = true from pyEqs_refl []]; exact q
  | cons n ns => rw [pyEq, pyEqs_len (by simp)]; exact q
/-- a piece as k05 draws one -/
structure PDrawn (p : List PP) : Prop where
  len : p.length ≤ 8
  ok : ∀ x ∈ p, FieldOk x.1
  asc : (p.map (·.1)).Pairwise ltF
theorem PDrawn.pok {p : List PP} (h : PDrawn p) : POk p := ⟨by have := h.len; omega, h.ok, h.asc⟩
theorem PDrawn.sub {p p' : List PP} (h : PDrawn p) (s : p'.Sublist p) : PDrawn p' := ⟨Nat.le_trans s.length_le h.len, fun x hx => h.ok x (s.subset hx), h.asc.sublist (s.map _)⟩
theorem WDrawn.sub {p p' : List WP} (h : WDrawn p) (s : p'.Sublist p) : WDrawn p' := ⟨Nat.le_trans s.length_le h.len, fun x hx => h.ok x (s.subset hx), h.asc.sublist (s.map _)⟩
def spLawPair : Sp := fun vs H Q _ => ∃ (b g l : Addr) (n : Int), vs = [.ref b] ∧ Bag H b g l n ∧ n ≤ 10 ^ 6 ∧
  ∀ (r wa pa : Addr) (w : List WP) (p : List PP) (H' : Hp), H' r = some (.tup [.ref wa, .ref pa]) → WishAt H' wa w → WDrawn w → PieceAt H' pa p → PDrawn p → Bag H' b g l (n + 600) → SameB b g H H' → Q (.ref r) H'
def spLawMet : Sp := fun vs H Q _ => ∃ (b g l : Addr) (n : Int) (wa pa : Addr) (w : List WP) (p : List PP), vs = [.ref b, .ref wa, .ref pa] ∧ Bag H b g l n ∧ n ≤ 10 ^ 6 ∧ WishAt H wa w ∧ WDrawn w ∧ PieceAt H pa p ∧ PDrawn p ∧
  ∀ (r : Addr) (p' : List PP) (H' : Hp), PieceAt H' r p' → PDrawn p' → Bag H' b g l (n + 20) → SameB b g H H' → Q (.ref r) H'
def spOtherPiece : Sp := fun vs H Q _ => ∃ (b g l : Addr) (n : Int) (pa : Addr) (p : List PP), vs = [.ref b, .ref pa] ∧ Bag H b g l n ∧ n ≤ 10 ^ 6 ∧ PieceAt H pa p ∧ PDrawn p ∧
  ∀ (r : Addr) (p' : List PP) (H' : Hp), PieceAt H' r p' → PDrawn p' → Bag H' b g l (n + 40) → SameB b g H H' → Q (.ref r) H'
def spOtherWish : Sp := fun vs H Q _ => ∃ (b g l : Addr) (n : Int) (wa : Addr) (w : List WP), vs = [.ref b, .ref wa] ∧ Bag H b g l n ∧ n ≤ 10 ^ 6 ∧ WishAt H wa w ∧ WDrawn w ∧
  ∀ (r : Addr) (w' : List WP) (H' : Hp), WishAt H' r w' → WDrawn w' → Bag H' b g l (n + 40) → SameB b g H H' → Q (.ref r) H'
/-- a pair of a wish and a piece -/
structure GoodPair (H : Hp) (x : Addr × Addr × Addr) : Prop where
  at' : H x.1 = some (.tup [.ref x.2.1, .ref x.2.2])
  wi : ∃ w, WishAt H x.2.1 w ∧ WDrawn w
  pc : ∃ p, PieceAt H x.2.2 p ∧ PDrawn p
theorem GoodPair.keep {H H' : Hp} {x : Addr × Addr × Addr} (h : GoodPair H x) (s : Tups H H') : GoodPair H' x :=
  ⟨s _ _ h.at', let ⟨w, a, b⟩ := h.wi; ⟨w, a.keep s, b⟩, let ⟨p, a, b⟩ := h.pc; ⟨p, a.keep s, b⟩⟩
/-- a dict's pairs put anew -/
def putP (bs : List PP) (f : Str) (v : Int) : List PP := if (bs.any fun x => decide (x.1 = f)) = true then bs.map (fun x => if x.1 = f then (x.1, v) else x) else bs ++ [(f, v)]
theorem putK_kvP (bs : List PP) (f : Str) (v : Int) : putK (kvP bs) (.inr f : Key) (.int v) = kvP (putP bs f v) := by
  unfold putK putP kvP
  have e : ((bs.map fun x => ((Sum.inr x.1 : Key), V.int x.2)).any fun kv => decide (kv.1 = (Sum.inr f : Key))) = bs.any fun x => decide (x.1 = f) := by
    rw [List.any_map]
    congr 1
    funext x
    simp
  rw [e]
  split
  · rw [List.map_map, List.map_map]
    refine List.map_congr_left fun x _ => ?_
    simp only [Function.comp]
    by_cases h : x.1 = f
    · rw [if_pos (by rw [h]), if_pos h]
    · rw [if_neg (fun z => h (by injection z)), if_neg h]
  · rw [List.map_append]
    rfl
structure NumsOk (bs : List PP) : Prop where
  ok : ∀ x ∈ bs, FieldOk x.1
  nd : (bs.map (·.1)).Nodup
theorem NumsOk.nil : NumsOk [] := ⟨fun x hx => by simp at hx, by simp⟩
theorem NumsOk.put {bs : List PP} (h : NumsOk bs) {f : Str} (hf : FieldOk f) (v : Int) : NumsOk (putP bs f v) := by
  unfold putP
  split
  · have e : (bs.map (fun x => if x.1 = f then (x.1, v) else x)).map (·.1) = bs.map (·.1) := by
      rw [List.map_map]
      refine List.map_congr_left fun x _ => ?_
      simp only [Function.comp]
      split <;> rfl
    refine ⟨fun x hx => ?_, by rw [e]; exact h.nd⟩
    obtain ⟨y, hy, rfl⟩ := List.mem_map.mp hx
    have := h.ok y hy
    split <;> exact this
  · rename_i hn
    have hn' : ∀ x ∈ bs, x.1 ≠ f := fun x hx z => hn (List.any_eq_true.mpr ⟨x, hx, decide_eq_true z⟩)
    refine ⟨fun x hx => ?_, ?_⟩
    · rcases List.mem_append.mp hx with z | z
      · exact h.ok x z
      · rw [List.mem_singleton.mp z]; exact hf
    · rw [List.map_append, List.nodup_append]
      refine ⟨h.nd, by simp, fun a ha b hb => ?_⟩
      obtain ⟨x, hx, rfl⟩ := List.mem_map.mp ha
      simp only [List.map_cons, List.map_nil, List.mem_singleton] at hb
      rw [hb]
      exact hn' x hx
theorem putP_len (bs : List PP) (f : Str) (v : Int) : (putP bs f v).length ≤ bs.length + 1 := by
  unfold putP
  split
  · rw [List.length_map]; omega
  · rw [List.length_append]; simp
end L2

set_option maxHeartbeats 4000000

namespace K05
open PySem PySem.Spec PyProof.Rows L2
def top (i : Nat) : Stmt := PySem.Challenge.pw_newsways_k05_what_is_wanted.main.body.getD i (.Pass ⟨0, 0, 0, 0⟩)
abbrev s_is_whole : Stmt := top 5
abbrev s_is_end : Stmt := top 6
abbrev s_is_span : Stmt := top 7
abbrev s_span_holds : Stmt := top 8
abbrev s_is_field : Stmt := top 11
abbrev s_is_wish_part : Stmt := top 12
abbrev s_is_piece_part : Stmt := top 13
abbrev s_fields_ascend : Stmt := top 14
abbrev s_is_wish : Stmt := top 15
abbrev s_is_piece : Stmt := top 16
abbrev s_check_wish : Stmt := top 17
abbrev s_check_piece : Stmt := top 18
abbrev s_wish_takes : Stmt := top 20
abbrev s_wants : Stmt := top 19
abbrev s_law_bag : Stmt := top 22
abbrev s_law_draw : Stmt := top 23
abbrev s_law_number : Stmt := top 24
abbrev s_law_held : Stmt := top 25
abbrev s_law_span : Stmt := top 26
abbrev s_law_in : Stmt := top 27
abbrev s_law_field : Stmt := top 28
abbrev s_law_fields : Stmt := top 29
abbrev s_law_near : Stmt := top 30
abbrev s_law_wants : Stmt := top 35
abbrev s_law_pair : Stmt := top 31
abbrev s_law_met : Stmt := top 32
abbrev s_law_other_piece : Stmt := top 33
abbrev s_law_other_wish : Stmt := top 34
abbrev s_law : Stmt := top 36

section
variable {P : Program} {w : World} {K : PySem.W.Frag} {mg : Str → Option Value} {base : Heap}
theorem sc_is_whole : FnScope ["thing"] ["thing"] (defScope s_is_whole) := ⟨rfl, rfl, rfl, by decide +kernel, rfl, by decide +kernel, by decide +kernel⟩
theorem ok_is_whole {f : Addr} {fd : FuncData} (F : Fun K "is_whole" "is_whole" s_is_whole f fd) (B : Bl mg) {t_MOST_LETTERS : Tok} (C_MOST_LETTERS : mg "MOST_LETTERS" = some (.int 8 t_MOST_LETTERS))  : FnOk P w K mg base CX0 1 f fd ["thing"] (spWhole K) := by
  refine F.ok sc_is_whole (fun vs H Q E h => ?_) (fun cdv A outer s H vs Q E hr h => ?_)
  · obtain ⟨v, t, rfl, hty, q⟩ := h
    rfl
  obtain ⟨v, t, rfl, hty, q⟩ := h
  refine ⟨_, (pss_one (ps_ret (pe_and (pe_callB (call_isinst (n := "")) rfl B.isinstance_ bt_isinstance (pa_cons (pv 0) (pa_cons (pe_bltn (v := .ty "int") rfl B.int_ bt_int rfl) pa_nil))) (pe_one (pe_not (pe_callB (call_isinst (n := "")) rfl B.isinstance_ bt_isinstance (pa_cons (pv 0) (pa_cons (pe_bltn (v := .ty "bool") rfl B.bool_ bt_bool rfl) pa_nil)))))))), ?_⟩
  cases hty
  all_goals first
    | exact ⟨_, rfl, _, "int", "int", true, rfl, .int _, rfl, _, rfl, iteT ⟨_, rfl, _, "int", "bool", false, rfl, .int _, rfl, _, rfl, q⟩⟩
    | exact ⟨_, rfl, _, "bool", "int", true, rfl, .bl _, rfl, _, rfl, iteT ⟨_, rfl, _, "bool", "bool", true, rfl, .bl _, rfl, _, rfl, q⟩⟩
    | exact ⟨_, rfl, _, _, "int", false, rfl, (by first | exact .non | exact .str _ | exact .flt _ | (exact .lst (by assumption)) | (exact .frz (by assumption)) | (exact .tup (by assumption)) | (exact .dK (by assumption)) | (exact .dT (by assumption))), rfl, _, rfl, iteF q⟩

theorem sc_is_end : FnScope ["thing"] ["thing"] (defScope s_is_end) := ⟨rfl, rfl, rfl, by decide +kernel, rfl, by decide +kernel, by decide +kernel⟩
theorem ok_is_end {f : Addr} {fd : FuncData} (F : Fun K "is_end" "is_end" s_is_end f fd) (B : Bl mg) {t_MOST_LETTERS : Tok} (C_MOST_LETTERS : mg "MOST_LETTERS" = some (.int 8 t_MOST_LETTERS)) (G_is_whole : FnH P w K mg base 1 "is_whole" ["thing"] (spWhole K)) : FnOk P w K mg base CX0 2 f fd ["thing"] (spEnd K) := by
  refine F.ok sc_is_end (fun vs H Q E h => ?_) (fun cdv A outer s H vs Q E hr h => ?_)
  · obtain ⟨v, t, rfl, hty, q⟩ := h
    rfl
  obtain ⟨v, t, rfl, hty, q⟩ := h
  refine ⟨_, (pss_one (ps_ret (pe_or (pe_cmp (pc_isN (pv 0))) (pe_one (pe_fn G_is_whole (hr.mono (by decide)) rfl (pa_cons (pv 0) pa_nil)))))), ?_⟩
  refine ⟨_, rfl, _, rfl, ?_⟩
  cases hty
  case non => exact iteT q
  all_goals refine iteF ?_
  case int i => exact ⟨_, rfl, _, _, rfl, .int _, q⟩
  all_goals exact ⟨_, rfl, _, _, rfl, (by first | exact .bl _ | exact .str _ | exact .flt _ | (exact .lst (by assumption)) | (exact .frz (by assumption)) | (exact .tup (by assumption)) | (exact .dK (by assumption)) | (exact .dT (by assumption))), q⟩

theorem sc_is_span : FnScope ["thing", "low", "high"] ["thing"] (defScope s_is_span) := ⟨rfl, rfl, rfl, by decide +kernel, rfl, by decide +kernel, by decide +kernel⟩
theorem ok_is_span {f : Addr} {fd : FuncData} (F : Fun K "is_span" "is_span" s_is_span f fd) (B : Bl mg) {t_MOST_LETTERS : Tok} (C_MOST_LETTERS : mg "MOST_LETTERS" = some (.int 8 t_MOST_LETTERS)) (G_is_end : FnH P w K mg base 2 "is_end" ["thing"] (spEnd K)) : FnOk P w K mg base CX0 3 f fd ["thing"] (spIsSpan K) := by
  refine F.ok sc_is_span (fun vs H Q E h => ?_) (fun cdv A outer s H vs Q E hr h => ?_)
  · obtain ⟨v, t, rfl, hty, hp, q⟩ := h
    rfl
  obtain ⟨v, t, rfl, hty, hp, q⟩ := h
  refine ⟨_, (pss_cons (ps_if (PW.pt (pw_or (pt_not (pt_val (pe_callB (call_isinst (n := "")) rfl B.isinstance_ bt_isinstance (pa_cons (pv 0) (pa_cons (pe_bltn (v := .ty "tuple") rfl B.tuple_ bt_tuple rfl) pa_nil))))) (pw_or1 (pt_cmpR op_ne (pe_callB call_len_seq rfl B.len_ bt_len (pa_cons (pv 0) pa_nil)) pe_int (nomark _))))) (pss_one (ps_ret pe_bl)) pss_nil)
      (pss_cons (ps_asg (pv 0) (pg_tup rfl (pgs_cons (pg_name (i := 1) sc_is_span.nd rfl (Or.inl rfl)) (pgs_cons (pg_name (i := 2) sc_is_span.nd rfl (Or.inl rfl)) pgs_nil))))
      (pss_cons (ps_if (PW.pt (pw_or (pt_not (pt_val (pe_fn G_is_end (hr.mono (by decide)) rfl (pa_cons (pv 1) pa_nil)))) (pw_or1 (pt_not (pt_val (pe_fn G_is_end (hr.mono (by decide)) rfl (pa_cons (pv 2) pa_nil))))))) (pss_one (ps_ret pe_bl)) pss_nil)
      (pss_one (ps_ret (pe_or (pe_cmp (pc_isN (pv 1))) (pe_or (pe_cmp (pc_isN (pv 2))) (pe_one (pe_cmpR op_le (pv 1) (pv 2) (nomark _)))))))))), ?_⟩
  have q0 : isSpanV H v = false → Q (.bl false) H := fun h => by rw [← h]; exact q
  cases hty
  case tup a xs e =>
    refine ⟨_, rfl, _, "tuple", "tuple", true, rfl, .tup e, rfl, _, rfl, iteF ⟨_, rfl, a, _, rfl, .inr (SqT.of e), rfl, _, rfl, ?_⟩⟩
    by_cases hl : xs.length = 2
    · match xs, hl with
      | [x, y], _ =>
        refine iteF ⟨_, rfl, a, _, rfl, SqT.of e, rfl, _, _, rfl, _, _, rfl, rfl, ?_⟩
        obtain ⟨t1, t2, h1, h2⟩ := hp a x y rfl e
        have es : isSpanV H (.ref a) = (endV x && endV y && leV x y) := by unfold isSpanV; simp only [e]
        rw [es] at q
        refine ⟨_, rfl, _, _, rfl, h1, _, rfl, ?_⟩
        cases ex : endV x with
        | false =>
          rw [ex] at q
          exact iteT q
        | true =>
          rw [ex] at q
          refine iteF ⟨_, rfl, _, _, rfl, h2, _, rfl, ?_⟩
          cases ey : endV y with
          | false =>
            rw [ey] at q
            exact iteT q
          | true =>
            rw [ey] at q
            refine iteF ⟨_, rfl, _, rfl, ?_⟩
            cases x with
            | non => exact iteT q
            | int i =>
              refine iteF ⟨_, rfl, _, rfl, ?_⟩
              cases y with
              | non => exact iteT q
              | int j => exact iteF ⟨_, rfl, _, rfl, _, _, rfl, rfl, q⟩
              | _ => exact absurd ey Bool.false_ne_true
            | _ => exact absurd ex Bool.false_ne_true
    · have es : isSpanV H (.ref a) = false := by
        unfold isSpanV
        simp only [e]
        match xs, hl with
        | [], _ => rfl
        | [_], _ => rfl
        | [_, _], h => exact absurd rfl h
        | _ :: _ :: _ :: _, _ => rfl
      have ed : (!decide (V.int ((xs.length : Nat) : Int) = V.int 2)) = true := by
        have : ¬ V.int ((xs.length : Nat) : Int) = V.int 2 := fun z => by injection z with z; omega
        rw [decide_eq_false this]
        rfl
      rw [es] at q
      show if (!decide (V.int ((xs.length : Nat) : Int) = V.int 2)) = true then _ else _
      rw [ed]
      exact iteT q
  case non => exact ⟨_, rfl, _, _, "tuple", false, rfl, .non, rfl, _, rfl, iteT (q0 rfl)⟩
  case bl b => exact ⟨_, rfl, _, _, "tuple", false, rfl, (.bl b), rfl, _, rfl, iteT (q0 rfl)⟩
  case int i => exact ⟨_, rfl, _, _, "tuple", false, rfl, (.int i), rfl, _, rfl, iteT (q0 rfl)⟩
  case str x => exact ⟨_, rfl, _, _, "tuple", false, rfl, (.str x), rfl, _, rfl, iteT (q0 rfl)⟩
  case flt x => exact ⟨_, rfl, _, _, "tuple", false, rfl, (.flt x), rfl, _, rfl, iteT (q0 rfl)⟩
  case lst a xs e => exact ⟨_, rfl, _, _, "tuple", false, rfl, (.lst e), rfl, _, rfl, iteT (q0 (by unfold isSpanV; simp only [e]))⟩
  case frz a o xs e => exact ⟨_, rfl, _, _, "tuple", false, rfl, (.frz e), rfl, _, rfl, iteT (q0 (by unfold isSpanV; simp only [e]))⟩
  case dK a kvs e => exact ⟨_, rfl, _, _, "tuple", false, rfl, (.dK e), rfl, _, rfl, iteT (q0 (by unfold isSpanV; simp only [e]))⟩
  case dT a kvs e => exact ⟨_, rfl, _, _, "tuple", false, rfl, (.dT e), rfl, _, rfl, iteT (q0 (by unfold isSpanV; simp only [e]))⟩

theorem sc_span_holds : FnScope ["span", "number", "low", "high"] ["span", "number"] (defScope s_span_holds) := ⟨rfl, rfl, rfl, by decide +kernel, rfl, by decide +kernel, by decide +kernel⟩
theorem ok_span_holds {f : Addr} {fd : FuncData} (F : Fun K "span_holds" "span_holds" s_span_holds f fd) (B : Bl mg) {t_MOST_LETTERS : Tok} (C_MOST_LETTERS : mg "MOST_LETTERS" = some (.int 8 t_MOST_LETTERS))  : FnOk P w K mg base CX0 1 f fd ["span", "number"] (spIn) := by
  refine F.ok sc_span_holds (fun vs H Q E h => ?_) (fun cdv A outer s H vs Q E hr h => ?_)
  · obtain ⟨v, lo, hi, k, rfl, S1, q⟩ := h
    rfl
  obtain ⟨v, lo, hi, k, rfl, S1, q⟩ := h
  refine ⟨_, (pss_cons (ps_asg (pv 0) (pg_tup rfl (pgs_cons (pg_name (i := 2) sc_span_holds.nd rfl (Or.inl rfl)) (pgs_cons (pg_name (i := 3) sc_span_holds.nd rfl (Or.inl rfl)) pgs_nil))))
      (pss_one (ps_ret (pe_and (pe_or (pe_cmp (pc_isN (pv 2))) (pe_one (pe_cmpR op_le (pv 2) (pv 1) (nomark _)))) (pe_one (pe_or (pe_cmp (pc_isN (pv 3))) (pe_one (pe_cmpR op_le (pv 1) (pv 3) (nomark _))))))))), ?_⟩
  obtain ⟨a, rfl, e1⟩ := S1
  refine ⟨_, rfl, a, _, rfl, SqT.of e1, rfl, _, _, rfl, _, _, rfl, rfl, ?_⟩
  have up : ∀ (Q' : VK), Q' (.bl (hiB hi k)) H → tOrV (fun σ H Q => tVar 3 σ H fun x H1 => Q (.bl (decide (x = .non))) H1) (tOp (rI0 fun i j => V.bl (decide (i ≤ j))) (tVar 1) (tVar 3)) [some (V.ref a), some (V.int k), some (eV lo), some (eV hi)] H Q' := fun Q' h => by
    refine ⟨_, rfl, _, rfl, ?_⟩
    cases hi with
    | none => exact iteT h
    | some u => exact iteF ⟨_, rfl, _, rfl, _, _, rfl, rfl, h⟩
  cases lo with
  | none =>
    refine ⟨_, rfl, _, rfl, iteT ⟨_, rfl, iteT (up _ ?_)⟩⟩
    have z : inB none hi k = hiB hi k := by simp only [inB, loB, Bool.true_and]
    rw [z] at q
    exact q
  | some l =>
    refine ⟨_, rfl, _, rfl, iteF ⟨_, rfl, _, rfl, _, _, rfl, rfl, _, rfl, ?_⟩⟩
    cases hb : decide (l ≤ k) with
    | true =>
      have z : inB (some l) hi k = hiB hi k := by simp only [inB, loB, hb, Bool.true_and]
      rw [z] at q
      exact iteT (up _ q)
    | false =>
      have z : inB (some l) hi k = false := by simp only [inB, loB, hb, Bool.false_and]
      rw [z] at q
      exact iteF q

theorem sc_is_field : FnScope ["thing"] ["thing"] (defScope s_is_field) := ⟨rfl, rfl, rfl, by decide +kernel, rfl, by decide +kernel, by decide +kernel⟩
theorem ok_is_field {f : Addr} {fd : FuncData} (F : Fun K "is_field" "is_field" s_is_field f fd) (B : Bl mg) {t_MOST_LETTERS : Tok} (C_MOST_LETTERS : mg "MOST_LETTERS" = some (.int 8 t_MOST_LETTERS))  : FnOk P w K mg base CX0 1 f fd ["thing"] (spField) := by
  refine F.ok sc_is_field (fun vs H Q E h => ?_) (fun cdv A outer s H vs Q E hr h => ?_)
  · obtain ⟨x, rfl, F1, q⟩ := h
    rfl
  obtain ⟨x, rfl, F1, q⟩ := h
  refine ⟨_, (pss_cons (ps_if (PW.pt (pw_or (pt_not (pt_val (pe_callB (call_isinst (n := "")) rfl B.isinstance_ bt_isinstance (pa_cons (pv 0) (pa_cons (pe_bltn (v := .ty "str") rfl B.str_ bt_str rfl) pa_nil))))) (pw_or1 (pt_not (pt_chain op_le op_le pe_int (pe_callB call_len_str rfl B.len_ bt_len (pa_cons (pv 0) pa_nil)) (pe_glob (v := .int 8) rfl C_MOST_LETTERS ⟨_, rfl⟩)))))) (pss_one (ps_ret pe_bl)) pss_nil)
      (pss_one (ps_ret (pe_callB (call_all rfl) rfl B.all_ bt_all (pa_cons (pe_lc (N' := ["sign"]) (js := [none]) rfl (capOk (N := ["thing"]) (outer := defScope s_is_field) (by decide +kernel)) (pi_str (pv 0)) (fun _ _ _ _ _ => (pg_name (i := 0) (show List.Nodup (["sign"] : List Str) by decide +kernel) rfl (Or.inl rfl))) (fun _ _ _ _ _ => pifs_nil) (fun _ _ _ _ _ => (pe_chain op_le_str op_le_str pe_str (pv 0) pe_str))) pa_nil))))), ?_⟩
  have l1 : (1 : Int) ≤ (x.length : Int) := by have := F1.one; omega
  have l8 : (x.length : Int) ≤ 8 := by have := F1.eight; omega
  refine ⟨_, rfl, _, "str", "str", true, rfl, .str x, rfl, _, rfl, iteF ⟨_, rfl, x, rfl, small (by have := F1.eight; omega), _, _, rfl, rfl, _, rfl, ?_⟩⟩
  rw [decide_eq_true l1]
  refine iteT ⟨_, _, rfl, rfl, _, rfl, ?_⟩
  rw [decide_eq_true l8]
  refine iteF ⟨_, rfl, x, rfl, fun p hp => ?_⟩
  have s0 := same_new hp (.lst [])
  have sl : (L2.signs x).length = x.length := by unfold L2.signs; rw [List.length_map, Array.length_toList]; rfl
  refine lc_itv (xs := L2.signs x) (fun i σ' ys H' => (∃ v, σ' = [v]) ∧ Same H H' ∧ H' p = some (.lst ys) ∧ ys = List.replicate i (V.bl true)) ⟨⟨none, rfl⟩, s0, upd_same, rfl⟩ ?_ ?_ ?_
  · rintro i σ' ys H' hi ⟨_, _, h1, h2⟩
    refine ⟨h1, ?_⟩
    rw [h2, List.length_replicate]
    have := F1.eight
    exact small1000 (by omega)
  · rintro i y σ' ys H' N hy ⟨⟨v, rfl⟩, s, h1, h2⟩ hN
    unfold L2.signs at hy
    rw [List.getElem?_map] at hy
    cases hc : x.cps.toList[i]? with
    | none => rw [hc] at hy; cases hy
    | some c =>
      rw [hc] at hy
      obtain rfl : V.str ⟨#[c]⟩ = y := Option.some.inj hy
      have ok := F1.all c (List.mem_of_getElem? hc)
      refine ⟨_, rfl, _, _, rfl, rfl, _, rfl, ?_⟩
      rw [ge_a ok]
      refine iteT ⟨_, _, rfl, rfl, ?_⟩
      rw [le_z ok]
      refine ⟨h1, hN _ _ _ ⟨⟨_, rfl⟩, ?_, upd_same, by rw [h2]; exact List.replicate_succ'.symm⟩⟩
      intro b o q'
      have : b ≠ p := fun z => by rw [z, hp] at q'; cases q'
      rw [upd_ne this]
      exact s b o q'
  · rintro σ' ys H' ⟨_, s, h1, h2⟩
    refine ⟨p, List.replicate (L2.signs x).length true, rfl, SqL.of (by rw [h1, h2, List.map_replicate]), ?_⟩
    have : (List.replicate (L2.signs x).length true).all id = true := by simp
    rw [this]
    exact q H' s

theorem sc_is_wish_part : FnScope ["thing", "field", "low", "high"] ["thing"] (defScope s_is_wish_part) := ⟨rfl, rfl, rfl, by decide +kernel, rfl, by decide +kernel, by decide +kernel⟩
theorem ok_is_wish_part {f : Addr} {fd : FuncData} (F : Fun K "is_wish_part" "is_wish_part" s_is_wish_part f fd) (B : Bl mg) {t_MOST_LETTERS : Tok} (C_MOST_LETTERS : mg "MOST_LETTERS" = some (.int 8 t_MOST_LETTERS)) (G_is_field : FnH P w K mg base 1 "is_field" ["thing"] (spField)) (G_is_span : FnH P w K mg base 3 "is_span" ["thing"] (spIsSpan K)) : FnOk P w K mg base CX0 4 f fd ["thing"] (spWishPart) := by
  refine F.ok sc_is_wish_part (fun vs H Q E h => ?_) (fun cdv A outer s H vs Q E hr h => ?_)
  · obtain ⟨p, f, lo, hi, rfl, hp, F1, hle, q⟩ := h
    rfl
  obtain ⟨p, f, lo, hi, rfl, hp, F1, hle, q⟩ := h
  refine ⟨_, (pss_cons (ps_if (PW.pt (pw_or (pt_not (pt_val (pe_callB (call_isinst (n := "")) rfl B.isinstance_ bt_isinstance (pa_cons (pv 0) (pa_cons (pe_bltn (v := .ty "tuple") rfl B.tuple_ bt_tuple rfl) pa_nil))))) (pw_or1 (pt_cmpR op_ne (pe_callB call_len_seq rfl B.len_ bt_len (pa_cons (pv 0) pa_nil)) pe_int (nomark _))))) (pss_one (ps_ret pe_bl)) pss_nil)
      (pss_cons (ps_asg (pv 0) (pg_tup rfl (pgs_cons (pg_name (i := 1) sc_is_wish_part.nd rfl (Or.inl rfl)) (pgs_cons (pg_name (i := 2) sc_is_wish_part.nd rfl (Or.inl rfl)) (pgs_cons (pg_name (i := 3) sc_is_wish_part.nd rfl (Or.inl rfl)) pgs_nil)))))
      (pss_one (ps_ret (pe_and (pe_fn G_is_field (hr.mono (by decide)) rfl (pa_cons (pv 1) pa_nil)) (pe_one (pe_fn G_is_span (hr.mono (by decide)) rfl (pa_cons (pe_tup (pa_cons (pv 2) (pa_cons (pv 3) pa_nil))) pa_nil)))))))), ?_⟩
  refine ⟨_, rfl, _, "tuple", "tuple", true, rfl, .tup hp, rfl, _, rfl, iteF ⟨_, rfl, p, _, rfl, .inr (SqT.of hp), rfl, _, rfl, ?_⟩⟩
  refine iteF ⟨_, rfl, p, _, rfl, SqT.of hp, rfl, _, _, rfl, _, _, rfl, _, _, rfl, rfl, ?_⟩
  refine ⟨_, rfl, f, rfl, F1, fun H1 s1 => ⟨_, rfl, iteT ⟨_, rfl, _, rfl, (by show 2 ≤ sizeLine; decide), fun t ht => ?_⟩⟩⟩
  have S : SpanAt (upd H1 t (.tup [eV lo, eV hi])) (.ref t) lo hi := ⟨t, rfl, upd_same⟩
  refine ⟨.ref t, "tuple", rfl, S.ty.1, S.ty.2, ?_⟩
  rw [isSpan_of S, hle]
  exact q _ (s1.trans (same_new ht _))

theorem sc_is_piece_part : FnScope ["thing", "field", "number"] ["thing"] (defScope s_is_piece_part) := ⟨rfl, rfl, rfl, by decide +kernel, rfl, by decide +kernel, by decide +kernel⟩
theorem ok_is_piece_part {f : Addr} {fd : FuncData} (F : Fun K "is_piece_part" "is_piece_part" s_is_piece_part f fd) (B : Bl mg) {t_MOST_LETTERS : Tok} (C_MOST_LETTERS : mg "MOST_LETTERS" = some (.int 8 t_MOST_LETTERS)) (G_is_field : FnH P w K mg base 1 "is_field" ["thing"] (spField)) (G_is_whole : FnH P w K mg base 1 "is_whole" ["thing"] (spWhole K)) : FnOk P w K mg base CX0 2 f fd ["thing"] (spPiecePart) := by
  refine F.ok sc_is_piece_part (fun vs H Q E h => ?_) (fun cdv A outer s H vs Q E hr h => ?_)
  · obtain ⟨p, f, n, rfl, hp, F1, q⟩ := h
    rfl
  obtain ⟨p, f, n, rfl, hp, F1, q⟩ := h
  refine ⟨_, (pss_cons (ps_if (PW.pt (pw_or (pt_not (pt_val (pe_callB (call_isinst (n := "")) rfl B.isinstance_ bt_isinstance (pa_cons (pv 0) (pa_cons (pe_bltn (v := .ty "tuple") rfl B.tuple_ bt_tuple rfl) pa_nil))))) (pw_or1 (pt_cmpR op_ne (pe_callB call_len_seq rfl B.len_ bt_len (pa_cons (pv 0) pa_nil)) pe_int (nomark _))))) (pss_one (ps_ret pe_bl)) pss_nil)
      (pss_cons (ps_asg (pv 0) (pg_tup rfl (pgs_cons (pg_name (i := 1) sc_is_piece_part.nd rfl (Or.inl rfl)) (pgs_cons (pg_name (i := 2) sc_is_piece_part.nd rfl (Or.inl rfl)) pgs_nil))))
      (pss_one (ps_ret (pe_and (pe_fn G_is_field (hr.mono (by decide)) rfl (pa_cons (pv 1) pa_nil)) (pe_one (pe_fn G_is_whole (hr.mono (by decide)) rfl (pa_cons (pv 2) pa_nil)))))))), ?_⟩
  refine ⟨_, rfl, _, "tuple", "tuple", true, rfl, .tup hp, rfl, _, rfl, iteF ⟨_, rfl, p, _, rfl, .inr (SqT.of hp), rfl, _, rfl, ?_⟩⟩
  refine iteF ⟨_, rfl, p, _, rfl, SqT.of hp, rfl, _, _, rfl, _, _, rfl, rfl, ?_⟩
  exact ⟨_, rfl, f, rfl, F1, fun H1 s1 => ⟨_, rfl, iteT ⟨_, rfl, .int n, "int", rfl, .int n, q _ s1⟩⟩⟩

theorem sc_fields_ascend : FnScope ["parts"] ["parts"] (defScope s_fields_ascend) := ⟨rfl, rfl, rfl, by decide +kernel, rfl, by decide +kernel, by decide +kernel⟩
theorem ok_fields_ascend {f : Addr} {fd : FuncData} (F : Fun K "fields_ascend" "fields_ascend" s_fields_ascend f fd) (B : Bl mg) {t_MOST_LETTERS : Tok} (C_MOST_LETTERS : mg "MOST_LETTERS" = some (.int 8 t_MOST_LETTERS))  : FnOk P w K mg base CX0 1 f fd ["parts"] (spAscend) := by
  refine F.ok sc_fields_ascend (fun vs H Q E h => ?_) (fun cdv A outer s H vs Q E hr h => ?_)
  · obtain ⟨a, ps, rfl, ha, hl, hp, hlt, q⟩ := h
    rfl
  obtain ⟨a, ps, rfl, ha, hl, hp, hlt, q⟩ := h
  refine ⟨_, (pss_one (ps_ret (pe_callB (call_all rfl) rfl B.all_ bt_all (pa_cons (pe_lc (N' := ["ahead", "behind"]) (js := [none, none]) rfl (capOk (N := ["parts"]) (outer := defScope s_fields_ascend) (by decide +kernel)) (pi_zip rfl B.zip_ (pa_cons (pv 0) (pa_cons (pe_slice sl_tupW (pv 0) (po_some pe_int) po_none) pa_nil))) (fun _ _ _ _ _ => (pg_tupK K rfl (n := 2) rfl (pgs_cons (pg_name (i := 0) (show List.Nodup (["ahead", "behind"] : List Str) by decide +kernel) rfl (Or.inl rfl)) (pgs_cons (pg_name (i := 1) (show List.Nodup (["ahead", "behind"] : List Str) by decide +kernel) rfl (Or.inl rfl)) pgs_nil)))) (fun _ _ _ _ _ => pifs_nil) (fun _ _ _ _ _ => (pe_cmpR op_lt_str (pe_ix (ix_tupK K rfl) (pv 0) pe_int (fun _ _ => rfl)) (pe_ix (ix_tupK K rfl) (pv 1) pe_int (fun _ _ => rfl)) (nomark _)))) pa_nil)))), ?_⟩
  refine ⟨_, rfl, _, rfl, _, rfl, ?_⟩
  dsimp only [tNoPart]
  refine sl_tail (SqT.of ha) fun p1 H1 s1 q1 => ?_
  refine ⟨a, p1, rfl, ⟨_, s1.seqT (SqT.of ha)⟩, ⟨_, q1⟩, fun p hp' => ?_⟩
  have s0 := same_new hp' (.lst [])
  have ld : ((ps.map fun p => V.ref p.1).drop 1).length = ps.length - 1 := by rw [List.length_drop, List.length_map]
  refine lc_zip (n := ps.length - 1) (xs := ps.map fun p => V.ref p.1) (ys := (ps.map fun p => V.ref p.1).drop 1) (by rw [List.length_map]; omega) (by rw [ld]; exact Nat.le_refl _) (.inr (by rw [ld]; exact Nat.le_refl _))
    (fun i σ' ys H' => (∃ v w, σ' = [v, w]) ∧ Same H1 H' ∧ H' p = some (.lst ys) ∧ ys = List.replicate i (V.bl true)) ⟨⟨none, none, rfl⟩, s0, upd_same, rfl⟩ ?_ ?_ ?_
  · rintro i σ' zs H' hi ⟨_, s, h1, h2⟩
    refine ⟨(s1.trans s).seqT (SqT.of ha), s.seqT q1, h1, ?_⟩
    rw [h2, List.length_replicate]
    exact small1000 (by omega)
  · rintro i x y σ' zs H' r N hx hy hr' ⟨⟨v, w', rfl⟩, s, h1, h2⟩ hN
    rw [List.getElem?_map] at hx
    rw [List.getElem?_drop, List.getElem?_map, Nat.add_comm] at hy
    cases e1 : ps[i]? with
    | none => rw [e1] at hx; cases hx
    | some P1 =>
      cases e2 : ps[i + 1]? with
      | none => rw [e2] at hy; cases hy
      | some P2 =>
        rw [e1] at hx
        rw [e2] at hy
        obtain rfl : V.ref P1.1 = x := Option.some.inj hx
        obtain rfl : V.ref P2.1 = y := Option.some.inj hy
        have s3 := same_new hr' (.tup [V.ref P1.1, V.ref P2.1])
        have t3 := (s1.trans s).trans s3
        have f1 := t3 _ _ (hp P1 (List.mem_of_getElem? e1))
        have f2 := t3 _ _ (hp P2 (List.mem_of_getElem? e2))
        refine ⟨r, _, rfl, SqT.of upd_same, rfl, _, _, rfl, _, _, rfl, rfl, ?_⟩
        refine ⟨_, rfl, P1.1, _, 0, _, rfl, rfl, SqT.of f1, at0, _, rfl, P2.1, _, 0, _, rfl, rfl, SqT.of f2, at0, _, _, rfl, rfl, ?_⟩
        rw [decide_eq_true (show P1.2.1.cps.toList < P2.2.1.cps.toList from hlt i P1 P2 e1 e2)]
        refine ⟨s3 _ _ h1, hN _ _ _ ⟨⟨_, _, rfl⟩, ?_, upd_same, by rw [h2]; exact List.replicate_succ'.symm⟩⟩
        intro b o q'
        have : b ≠ p := fun z => by rw [z, hp'] at q'; cases q'
        rw [upd_ne this]
        exact s3 _ _ (s b o q')
  · rintro σ' zs H' ⟨_, s, h1, h2⟩
    refine ⟨p, List.replicate (ps.length - 1) true, rfl, SqL.of (by rw [h1, h2, List.map_replicate]), ?_⟩
    have : (List.replicate (ps.length - 1) true).all id = true := by simp
    rw [this]
    exact q H' (s1.trans s)

theorem sc_is_wish : FnScope ["thing"] ["thing"] (defScope s_is_wish) := ⟨rfl, rfl, rfl, by decide +kernel, rfl, by decide +kernel, by decide +kernel⟩
theorem ok_is_wish {f : Addr} {fd : FuncData} (F : Fun K "is_wish" "is_wish" s_is_wish f fd) (B : Bl mg) {t_MOST_LETTERS : Tok} (C_MOST_LETTERS : mg "MOST_LETTERS" = some (.int 8 t_MOST_LETTERS)) (G_fields_ascend : FnH P w K mg base 1 "fields_ascend" ["parts"] (spAscend)) (G_is_wish_part : FnH P w K mg base 4 "is_wish_part" ["thing"] (spWishPart)) : FnOk P w K mg base CX0 5 f fd ["thing"] (spIsWish) := by
  refine F.ok sc_is_wish (fun vs H Q E h => ?_) (fun cdv A outer s H vs Q E hr h => ?_)
  · obtain ⟨a, w', rfl, hw, wok, q⟩ := h
    rfl
  obtain ⟨a, w', rfl, hw, wok, q⟩ := h
  refine ⟨_, (pss_cons (ps_if (pt_not (pt_val (pe_callB (call_isinst (n := "")) rfl B.isinstance_ bt_isinstance (pa_cons (pv 0) (pa_cons (pe_bltn (v := .ty "tuple") rfl B.tuple_ bt_tuple rfl) pa_nil))))) (pss_one (ps_ret pe_bl)) pss_nil)
      (pss_one (ps_ret (pe_and (pe_callB (call_all rfl) rfl B.all_ bt_all (pa_cons (pe_lc (N' := ["part"]) (js := [none]) rfl (capOk (N := ["thing"]) (outer := defScope s_is_wish) (by decide +kernel)) (pi_tup (pv 0)) (fun _ _ _ _ _ => (pg_name (i := 0) (show List.Nodup (["part"] : List Str) by decide +kernel) rfl (Or.inl rfl))) (fun _ _ _ _ _ => pifs_nil) (fun _ _ _ _ _ => (pe_fn G_is_wish_part (hr.mono (by decide)) rfl (pa_cons (pv 0) pa_nil)))) pa_nil)) (pe_one (pe_fn G_fields_ascend (hr.mono (by decide)) rfl (pa_cons (pv 0) pa_nil))))))), ?_⟩
  obtain ⟨ps, rfl, hA, hP⟩ := hw
  have ll : ps.length ≤ 100 := by have := wok.len; rw [List.length_map] at this; exact this
  refine ⟨_, rfl, _, "tuple", "tuple", true, rfl, .tup hA, rfl, _, rfl, iteF ?_⟩
  refine ⟨_, rfl, a, rfl, ⟨_, SqT.of hA⟩, fun p hp => ?_⟩
  refine lc_tup (xs := ps.map fun p => V.ref p.1) (fun i σ' ys H' => (∃ v, σ' = [v]) ∧ Same H H' ∧ H' p = some (.lst ys) ∧ ys = List.replicate i (V.bl true)) ⟨⟨none, rfl⟩, same_new hp _, upd_same, rfl⟩ ?_ ?_ ?_
  · rintro i σ' ys H' hi ⟨_, s, h1, h2⟩
    refine ⟨s.seqT (SqT.of hA), h1, ?_⟩
    rw [h2, List.length_replicate]
    rw [List.length_map] at hi
    exact small1000 (by omega)
  · rintro i x σ' ys H' N hx ⟨⟨v, rfl⟩, s, h1, h2⟩ hN
    rw [List.getElem?_map] at hx
    cases e1 : ps[i]? with
    | none => rw [e1] at hx; cases hx
    | some P1 =>
      rw [e1] at hx
      obtain rfl : V.ref P1.1 = x := Option.some.inj hx
      have hm := List.mem_of_getElem? e1
      obtain ⟨o1, o2⟩ := wok.ok P1.2 (List.mem_map_of_mem hm)
      refine ⟨_, rfl, P1.1, P1.2.1, P1.2.2.1, P1.2.2.2, rfl, s _ _ (hP P1 hm), o1, o2, fun H2 s2 => ?_⟩
      refine ⟨s2 _ _ h1, hN _ _ _ ⟨⟨_, rfl⟩, upd_off (s.trans s2) hp, upd_same, by rw [h2]; exact List.replicate_succ'.symm⟩⟩
  · rintro σ' ys H' ⟨_, s, h1, h2⟩
    refine ⟨p, List.replicate (ps.map fun p => V.ref p.1).length true, rfl, SqL.of (by rw [h1, h2, List.map_replicate]), _, rfl, ?_⟩
    rw [show (List.replicate (ps.map fun p => V.ref p.1).length true).all id = true by simp]
    refine iteT ⟨_, rfl, a, ps.map (fun p => (p.1, p.2.1, [eV p.2.2.1, eV p.2.2.2])), rfl, ?_, by rw [List.length_map]; exact ll, ?_, ?_, fun H2 s2 => q H2 (s.trans s2)⟩
    · rw [List.map_map]; exact s _ _ hA
    · intro r hr
      rw [List.mem_map] at hr
      obtain ⟨P1, hm, rfl⟩ := hr
      exact s _ _ (hP P1 hm)
    · intro i r1 r2 h3 h4
      rw [List.getElem?_map] at h3 h4
      cases e1 : ps[i]? with
      | none => rw [e1] at h3; cases h3
      | some P1 =>
        cases e2 : ps[i + 1]? with
        | none => rw [e2] at h4; cases h4
        | some P2 =>
          rw [e1] at h3
          rw [e2] at h4
          obtain rfl := Option.some.inj h3
          obtain rfl := Option.some.inj h4
          have l2 := (List.getElem?_eq_some_iff.mp e2).1
          have := List.pairwise_iff_getElem.mp wok.asc i (i + 1) (by simp; omega) (by simp; omega) (by omega)
          simp only [List.getElem_map] at this
          rw [(List.getElem?_eq_some_iff.mp e1).2, (List.getElem?_eq_some_iff.mp e2).2] at this
          exact this

theorem sc_is_piece : FnScope ["thing"] ["thing"] (defScope s_is_piece) := ⟨rfl, rfl, rfl, by decide +kernel, rfl, by decide +kernel, by decide +kernel⟩
theorem ok_is_piece {f : Addr} {fd : FuncData} (F : Fun K "is_piece" "is_piece" s_is_piece f fd) (B : Bl mg) {t_MOST_LETTERS : Tok} (C_MOST_LETTERS : mg "MOST_LETTERS" = some (.int 8 t_MOST_LETTERS)) (G_fields_ascend : FnH P w K mg base 1 "fields_ascend" ["parts"] (spAscend)) (G_is_piece_part : FnH P w K mg base 2 "is_piece_part" ["thing"] (spPiecePart)) : FnOk P w K mg base CX0 3 f fd ["thing"] (spIsPiece) := by
  refine F.ok sc_is_piece (fun vs H Q E h => ?_) (fun cdv A outer s H vs Q E hr h => ?_)
  · obtain ⟨a, w', rfl, hw, wok, q⟩ := h
    rfl
  obtain ⟨a, w', rfl, hw, wok, q⟩ := h
  refine ⟨_, (pss_cons (ps_if (pt_not (pt_val (pe_callB (call_isinst (n := "")) rfl B.isinstance_ bt_isinstance (pa_cons (pv 0) (pa_cons (pe_bltn (v := .ty "tuple") rfl B.tuple_ bt_tuple rfl) pa_nil))))) (pss_one (ps_ret pe_bl)) pss_nil)
      (pss_one (ps_ret (pe_and (pe_callB (call_all rfl) rfl B.all_ bt_all (pa_cons (pe_lc (N' := ["part"]) (js := [none]) rfl (capOk (N := ["thing"]) (outer := defScope s_is_piece) (by decide +kernel)) (pi_tup (pv 0)) (fun _ _ _ _ _ => (pg_name (i := 0) (show List.Nodup (["part"] : List Str) by decide +kernel) rfl (Or.inl rfl))) (fun _ _ _ _ _ => pifs_nil) (fun _ _ _ _ _ => (pe_fn G_is_piece_part (hr.mono (by decide)) rfl (pa_cons (pv 0) pa_nil)))) pa_nil)) (pe_one (pe_fn G_fields_ascend (hr.mono (by decide)) rfl (pa_cons (pv 0) pa_nil))))))), ?_⟩
  obtain ⟨ps, rfl, hA, hP⟩ := hw
  have ll : ps.length ≤ 100 := by have := wok.len; rw [List.length_map] at this; exact this
  refine ⟨_, rfl, _, "tuple", "tuple", true, rfl, .tup hA, rfl, _, rfl, iteF ?_⟩
  refine ⟨_, rfl, a, rfl, ⟨_, SqT.of hA⟩, fun p hp => ?_⟩
  refine lc_tup (xs := ps.map fun p => V.ref p.1) (fun i σ' ys H' => (∃ v, σ' = [v]) ∧ Same H H' ∧ H' p = some (.lst ys) ∧ ys = List.replicate i (V.bl true)) ⟨⟨none, rfl⟩, same_new hp _, upd_same, rfl⟩ ?_ ?_ ?_
  · rintro i σ' ys H' hi ⟨_, s, h1, h2⟩
    refine ⟨s.seqT (SqT.of hA), h1, ?_⟩
    rw [h2, List.length_replicate]
    rw [List.length_map] at hi
    exact small1000 (by omega)
  · rintro i x σ' ys H' N hx ⟨⟨v, rfl⟩, s, h1, h2⟩ hN
    rw [List.getElem?_map] at hx
    cases e1 : ps[i]? with
    | none => rw [e1] at hx; cases hx
    | some P1 =>
      rw [e1] at hx
      obtain rfl : V.ref P1.1 = x := Option.some.inj hx
      have hm := List.mem_of_getElem? e1
      have o1 := wok.ok P1.2 (List.mem_map_of_mem hm)
      refine ⟨_, rfl, P1.1, P1.2.1, P1.2.2, rfl, s _ _ (hP P1 hm), o1, fun H2 s2 => ?_⟩
      refine ⟨s2 _ _ h1, hN _ _ _ ⟨⟨_, rfl⟩, upd_off (s.trans s2) hp, upd_same, by rw [h2]; exact List.replicate_succ'.symm⟩⟩
  · rintro σ' ys H' ⟨_, s, h1, h2⟩
    refine ⟨p, List.replicate (ps.map fun p => V.ref p.1).length true, rfl, SqL.of (by rw [h1, h2, List.map_replicate]), _, rfl, ?_⟩
    rw [show (List.replicate (ps.map fun p => V.ref p.1).length true).all id = true by simp]
    refine iteT ⟨_, rfl, a, ps.map (fun p => (p.1, p.2.1, [V.int p.2.2])), rfl, ?_, by rw [List.length_map]; exact ll, ?_, ?_, fun H2 s2 => q H2 (s.trans s2)⟩
    · rw [List.map_map]; exact s _ _ hA
    · intro r hr
      rw [List.mem_map] at hr
      obtain ⟨P1, hm, rfl⟩ := hr
      exact s _ _ (hP P1 hm)
    · intro i r1 r2 h3 h4
      rw [List.getElem?_map] at h3 h4
      cases e1 : ps[i]? with
      | none => rw [e1] at h3; cases h3
      | some P1 =>
        cases e2 : ps[i + 1]? with
        | none => rw [e2] at h4; cases h4
        | some P2 =>
          rw [e1] at h3
          rw [e2] at h4
          obtain rfl := Option.some.inj h3
          obtain rfl := Option.some.inj h4
          have l2 := (List.getElem?_eq_some_iff.mp e2).1
          have := List.pairwise_iff_getElem.mp wok.asc i (i + 1) (by simp; omega) (by simp; omega) (by omega)
          simp only [List.getElem_map] at this
          rw [(List.getElem?_eq_some_iff.mp e1).2, (List.getElem?_eq_some_iff.mp e2).2] at this
          exact this

theorem sc_check_wish : FnScope ["thing"] ["thing"] (defScope s_check_wish) := ⟨rfl, rfl, rfl, by decide +kernel, rfl, by decide +kernel, by decide +kernel⟩
theorem ok_check_wish {f : Addr} {fd : FuncData} (F : Fun K "check_wish" "check_wish" s_check_wish f fd) (B : Bl mg) {t_MOST_LETTERS : Tok} (C_MOST_LETTERS : mg "MOST_LETTERS" = some (.int 8 t_MOST_LETTERS)) (G_is_wish : FnH P w K mg base 5 "is_wish" ["thing"] (spIsWish)) : FnOk P w K mg base CX0 6 f fd ["thing"] (spChkWish) := by
  refine F.ok sc_check_wish (fun vs H Q E h => ?_) (fun cdv A outer s H vs Q E hr h => ?_)
  · obtain ⟨a, w', rfl, hw, wok, q⟩ := h
    rfl
  obtain ⟨a, w', rfl, hw, wok, q⟩ := h
  refine ⟨_, (pss_one (ps_if (pt_not (pt_val (pe_fn G_is_wish (hr.mono (by decide)) rfl (pa_cons (pv 0) pa_nil)))) (pss_one ps_never) pss_nil)), ?_⟩
  exact ⟨_, rfl, a, w', rfl, hw, wok, fun H' s => ⟨_, rfl, iteF (q H' s)⟩⟩

theorem sc_check_piece : FnScope ["thing"] ["thing"] (defScope s_check_piece) := ⟨rfl, rfl, rfl, by decide +kernel, rfl, by decide +kernel, by decide +kernel⟩
theorem ok_check_piece {f : Addr} {fd : FuncData} (F : Fun K "check_piece" "check_piece" s_check_piece f fd) (B : Bl mg) {t_MOST_LETTERS : Tok} (C_MOST_LETTERS : mg "MOST_LETTERS" = some (.int 8 t_MOST_LETTERS)) (G_is_piece : FnH P w K mg base 3 "is_piece" ["thing"] (spIsPiece)) : FnOk P w K mg base CX0 4 f fd ["thing"] (spChkPiece) := by
  refine F.ok sc_check_piece (fun vs H Q E h => ?_) (fun cdv A outer s H vs Q E hr h => ?_)
  · obtain ⟨a, w', rfl, hw, wok, q⟩ := h
    rfl
  obtain ⟨a, w', rfl, hw, wok, q⟩ := h
  refine ⟨_, (pss_one (ps_if (pt_not (pt_val (pe_fn G_is_piece (hr.mono (by decide)) rfl (pa_cons (pv 0) pa_nil)))) (pss_one ps_never) pss_nil)), ?_⟩
  exact ⟨_, rfl, a, w', rfl, hw, wok, fun H' s => ⟨_, rfl, iteF (q H' s)⟩⟩

theorem sc_wish_takes : FnScope ["wish", "piece", "numbers", "field", "low", "high"] ["wish", "piece"] (defScope s_wish_takes) := ⟨rfl, rfl, rfl, by decide +kernel, rfl, by decide +kernel, by decide +kernel⟩
theorem ok_wish_takes {f : Addr} {fd : FuncData} (F : Fun K "wish_takes" "wish_takes" s_wish_takes f fd) (B : Bl mg) {t_MOST_LETTERS : Tok} (C_MOST_LETTERS : mg "MOST_LETTERS" = some (.int 8 t_MOST_LETTERS)) (G_span_holds : FnH P w K mg base 1 "span_holds" ["span", "number"] (spIn)) : FnOk P w K mg base CX0 2 f fd ["wish", "piece"] (spTakes) := by
  refine F.ok sc_wish_takes (fun vs H Q E h => ?_) (fun cdv A outer s H vs Q E hr h => ?_)
  · obtain ⟨a, b, w', p, rfl, hw, hp, pok, q⟩ := h
    rfl
  obtain ⟨a, b, w', p, rfl, hw, hp, pok, q⟩ := h
  refine ⟨_, (pss_cons (ps_setDC (N' := ["field", "number"]) (js := [none, none]) (i := 2) sc_wish_takes.nd rfl (Or.inl rfl) rfl (capOk (N := ["wish", "piece", "numbers", "field", "low", "high"]) (outer := defScope s_wish_takes) (by decide +kernel)) (pi_tup (pv 1)) (fun _ _ _ _ _ => (pg_tupK K rfl (n := 2) rfl (pgs_cons (pg_name (i := 0) (show List.Nodup (["field", "number"] : List Str) by decide +kernel) rfl (Or.inl rfl)) (pgs_cons (pg_name (i := 1) (show List.Nodup (["field", "number"] : List Str) by decide +kernel) rfl (Or.inl rfl)) pgs_nil)))) (fun _ _ _ _ _ => pifs_nil) (fun _ _ _ _ _ => (pv 0)) (fun _ _ _ _ _ => (pv 1)))
      (pss_cons (ps_for PassesOwn.never rfl (pi_tup (pv 0)) (pg_tup rfl (pgs_cons (pg_name (i := 3) sc_wish_takes.nd rfl (Or.inl rfl)) (pgs_cons (pg_name (i := 4) sc_wish_takes.nd rfl (Or.inl rfl)) (pgs_cons (pg_name (i := 5) sc_wish_takes.nd rfl (Or.inl rfl)) pgs_nil)))) (pss_one (ps_if (PW.pt (pw_or (pt_cmp (pc_dnotin (hu_of hr) (pv 3) (pv 2)) (by with_unfolding_all rfl)) (pw_or1 (pt_not (pt_val (pe_fn G_span_holds (hr.mono (by decide)) rfl (pa_cons (pe_tup (pa_cons (pv 4) (pa_cons (pv 5) pa_nil))) (pa_cons (pe_dget (hu_of hr) (pv 2) (pv 3) (fun _ _ => rfl)) pa_nil)))))))) (pss_one (ps_ret pe_bl)) pss_nil)))
      (pss_one (ps_ret pe_bl)))), ?_⟩
  obtain ⟨ps, rfl, hA, hP⟩ := hp
  have ll : ps.length ≤ 100 := by have := pok.len; rw [List.length_map] at this; exact this
  refine ⟨_, rfl, b, rfl, ⟨_, SqT.of hA⟩, fun d hd => ?_⟩
  refine dc_tup (xs := ps.map fun p => V.ref p.1) (fun i σ' kvs H' => (∃ v1 v2, σ' = [v1, v2]) ∧ Same H H' ∧ H' d = some (.dK kvs) ∧ kvs.length ≤ i ∧ ∀ f : Str, valV kvs (.inr f) = (numIn ((ps.map (·.2)).take i) f).map V.int) ⟨⟨none, none, rfl⟩, same_new hd _, upd_same, Nat.zero_le _, fun f => rfl⟩ ?_ ?_ ?_
  · rintro i σ' kvs H' hi ⟨_, s, h1, h2, _⟩
    rw [List.length_map] at hi
    exact ⟨s.seqT (SqT.of hA), h1, small1000 (by omega)⟩
  · rintro i x σ' kvs H' N hx ⟨⟨v1, v2, rfl⟩, s, h1, h2, h3⟩ hN
    rw [List.getElem?_map] at hx
    cases e1 : ps[i]? with
    | none => rw [e1] at hx; cases hx
    | some P1 =>
      rw [e1] at hx
      obtain rfl : V.ref P1.1 = x := Option.some.inj hx
      have hm := List.mem_of_getElem? e1
      refine ⟨P1.1, _, rfl, SqT.of (s _ _ (hP P1 hm)), rfl, _, _, rfl, _, _, rfl, rfl, ?_⟩
      refine ⟨_, rfl, _, rfl, Sum.inr P1.2.1, rfl, h1, hN _ _ _ ⟨⟨_, _, rfl⟩, upd_off s hd, upd_same, ?_, fun f => ?_⟩⟩
      · have := length_putK kvs (Sum.inr P1.2.1 : Key) (V.int P1.2.2)
        omega
      · have ew : (ps.map (·.2))[i]? = some P1.2 := by rw [List.getElem?_map, e1]; rfl
        have fr := pok.fresh ew
        rw [take_snoc ew, numIn_snoc _ _ _ fr, valV_put]
        by_cases hf : f = P1.2.1
        · subst hf
          rw [if_pos rfl, if_pos rfl]
          rfl
        · rw [if_neg hf, if_neg (fun z => hf (by injection z))]
          exact h3 f
  · rintro σ' kvs H1 ⟨_, s1, h1, h2, h3⟩
    have et : (ps.map (·.2)).take (ps.map fun p => V.ref p.1).length = ps.map (·.2) := List.take_of_length_le (by simp)
    rw [et] at h3
    obtain ⟨ws, rfl, hB, hW⟩ := hw.same s1
    refine ⟨_, rfl, a, rfl, ⟨_, SqT.of hB⟩, for_tup (K := K) (a := a) (xs := ws.map fun p => V.ref p.1) (fun i σ H' => (∃ y3 y4 y5, σ = [some (.ref a), some (.ref b), some (.ref d), y3, y4, y5]) ∧ Same H1 H' ∧ takesW ((ws.map (·.2)).take i) (ps.map (·.2)) = true) ⟨⟨none, none, none, rfl⟩, Same.refl _, rfl⟩ (fun i σ H' _ ⟨_, s, _⟩ => s.seqT (SqT.of hB)) ?_ ?_⟩
    · rintro i x σ H' hx ⟨⟨y2, y3, y4, rfl⟩, s, hr'⟩
      rw [List.getElem?_map] at hx
      cases e1 : ws[i]? with
      | none => rw [e1] at hx; cases hx
      | some P1 =>
        rw [e1] at hx
        obtain rfl : V.ref P1.1 = x := Option.some.inj hx
        have hm := List.mem_of_getElem? e1
        have ew : (ws.map (·.2))[i]? = some P1.2 := by rw [List.getElem?_map, e1]; rfl
        have k1 := s _ _ h1
        have kf := h3 P1.2.1
        refine ⟨P1.1, _, rfl, SqT.of (s _ _ (hW P1 hm)), rfl, _, _, rfl, _, _, rfl, _, _, rfl, rfl, ?_⟩
        have out : takesP (ps.map (·.2)) P1.2 = false → takesW (ws.map (·.2)) (ps.map (·.2)) = false := fun h => takesW_out (List.mem_map_of_mem hm) h
        refine ⟨_, rfl, _, rfl, d, _, rfl, DGet.k (k := Sum.inr P1.2.1) k1, _, rfl, ?_⟩
        cases hs : numIn (ps.map (·.2)) P1.2.1 with
        | none =>
          rw [hs] at kf
          rw [kf]
          refine iteT ?_
          have o1 := out (takesP_none hs)
          rw [o1] at q
          exact q _ (s1.trans s)
        | some n =>
          rw [hs] at kf
          rw [kf]
          refine iteF ⟨_, rfl, _, rfl, (by show 2 ≤ sizeLine; decide), fun u hu => ?_⟩
          have su := same_new hu (.tup [eV P1.2.2.1, eV P1.2.2.2])
          have gd : DGet (upd H' u (.tup [eV P1.2.2.1, eV P1.2.2.2])) d (.str P1.2.1) (some (.int n)) := by
            have := DGet.k (k := Sum.inr P1.2.1) (su _ _ k1)
            rw [kf] at this
            exact this
          refine ⟨_, rfl, _, rfl, d, _, rfl, gd, .ref u, P1.2.2.1, P1.2.2.2, n, rfl, ⟨u, rfl, upd_same⟩, _, rfl, ?_⟩
          cases hb : inB P1.2.2.1 P1.2.2.2 n with
          | false =>
            refine iteT ?_
            have o1 := out ((takesP_some hs).trans hb)
            rw [o1] at q
            exact q _ (s1.trans (s.trans su))
          | true =>
            refine iteF ⟨⟨_, _, _, rfl⟩, s.trans su, ?_⟩
            rw [take_snoc ew]
            unfold takesW at *
            rw [List.all_append, hr', Bool.true_and, List.all_cons, List.all_nil, takesP_some hs, hb]
            rfl
    · rintro σ H' ⟨_, s, hr'⟩
      rw [show (ws.map (·.2)).take (ws.map fun p => V.ref p.1).length = ws.map (·.2) from List.take_of_length_le (by simp)] at hr'
      rw [hr'] at q
      exact q _ (s1.trans s)

theorem sc_wants : FnScope ["wish", "piece"] ["wish", "piece"] (defScope s_wants) := ⟨rfl, rfl, rfl, by decide +kernel, rfl, by decide +kernel, by decide +kernel⟩
theorem ok_wants {f : Addr} {fd : FuncData} (F : Fun K "wants" "wants" s_wants f fd) (B : Bl mg) {t_MOST_LETTERS : Tok} (C_MOST_LETTERS : mg "MOST_LETTERS" = some (.int 8 t_MOST_LETTERS)) (G_check_wish : FnH P w K mg base 6 "check_wish" ["thing"] (spChkWish)) (G_check_piece : FnH P w K mg base 4 "check_piece" ["thing"] (spChkPiece)) (G_wish_takes : FnH P w K mg base 2 "wish_takes" ["wish", "piece"] (spTakes)) : FnOk P w K mg base CX0 7 f fd ["wish", "piece"] (spWants) := by
  refine F.ok sc_wants (fun vs H Q E h => ?_) (fun cdv A outer s H vs Q E hr h => ?_)
  · obtain ⟨a, b, w', p, rfl, hw, hp, wok, pok, q⟩ := h
    rfl
  obtain ⟨a, b, w', p, rfl, hw, hp, wok, pok, q⟩ := h
  refine ⟨_, (pss_cons (ps_expr (pe_fn G_check_wish (hr.mono (by decide)) rfl (pa_cons (pv 0) pa_nil)))
      (pss_cons (ps_expr (pe_fn G_check_piece (hr.mono (by decide)) rfl (pa_cons (pv 1) pa_nil)))
      (pss_one (ps_ret (pe_fn G_wish_takes (hr.mono (by decide)) rfl (pa_cons (pv 0) (pa_cons (pv 1) pa_nil))))))), ?_⟩
  refine ⟨_, rfl, a, w', rfl, hw, wok, fun H1 s1 => ?_⟩
  refine ⟨_, rfl, b, p, rfl, hp.same s1, pok, fun H2 s2 => ?_⟩
  have t2 := s1.trans s2
  exact ⟨_, rfl, _, rfl, a, b, w', p, rfl, hw.same t2, hp.same t2, pok, fun H3 s3 => q _ (t2.trans s3)⟩

theorem sc_law_bag : FnScope ["script", "great", "lesser", "stir", "cell"] ["script"] (defScope s_law_bag) := ⟨rfl, rfl, rfl, by decide +kernel, rfl, by decide +kernel, by decide +kernel⟩
theorem ok_law_bag {f : Addr} {fd : FuncData} (F : Fun K "_law_bag" "_law_bag" s_law_bag f fd) (B : Bl mg) {t_MOST_LETTERS : Tok} (C_MOST_LETTERS : mg "MOST_LETTERS" = some (.int 8 t_MOST_LETTERS))  : FnOk P w K mg base CX0 1 f fd ["script"] (spBag K) := by
  refine F.ok sc_law_bag (fun vs H Q E h => ?_) (fun cdv A outer s H vs Q E hr h => ?_)
  · obtain ⟨a, ns, rfl, hS, h63, q⟩ := h
    rfl
  obtain ⟨a, ns, rfl, hS, h63, q⟩ := h
  refine ⟨_, (pss_cons (ps_setLC (N' := ["cell"]) (js := [none]) (i := 1) sc_law_bag.nd rfl (Or.inl rfl) rfl (capOk (N := ["script", "great", "lesser", "stir", "cell"]) (outer := defScope s_law_bag) (by decide +kernel)) (pi_list (pe_slice sl_list (pv 0) po_none (po_some pe_int))) (fun _ _ _ _ _ => (pg_name (i := 0) (show List.Nodup (["cell"] : List Str) by decide +kernel) rfl (Or.inl rfl))) (fun _ _ _ _ _ => pifs_one (pt_cmpR op_ge (pv 0) (pe_op op_powB pe_int pe_int) (nomark _))) (fun _ _ _ _ _ => (pe_op op_sub (pv 0) (pe_op op_powB pe_int pe_int))))
      (pss_cons (ps_setLC (N' := ["cell"]) (js := [none]) (i := 2) sc_law_bag.nd rfl (Or.inl rfl) rfl (capOk (N := ["script", "great", "lesser", "stir", "cell"]) (outer := defScope s_law_bag) (by decide +kernel)) (pi_list (pe_slice sl_list (pv 0) po_none (po_some pe_int))) (fun _ _ _ _ _ => (pg_name (i := 0) (show List.Nodup (["cell"] : List Str) by decide +kernel) rfl (Or.inl rfl))) (fun _ _ _ _ _ => pifs_one (pt_cmpR op_lt (pv 0) (pe_op op_powB pe_int pe_int) (nomark _))) (fun _ _ _ _ _ => (pe_op op_mod (pv 0) (pe_op op_powB pe_int pe_int))))
      (pss_cons (ps_set (i := 3) sc_law_bag.nd rfl (Or.inl rfl) pe_int)
      (pss_cons (ps_for PassesOwn.never rfl (pi_list (pv 2)) (pg_name (i := 4) sc_law_bag.nd rfl (Or.inl rfl)) (pss_one (ps_set (i := 3) sc_law_bag.nd rfl (Or.inl rfl) (pe_op op_mod (pe_op op_powB (pe_op op_add (pe_op op_add (pv 3) (pv 4)) pe_int) pe_int) pe_int))))
      (pss_one (ps_ret (pe_lst (pa_cons (pv 1) (pa_cons (pe_op op_cat (pv 2) (pe_lst (pa_cons pe_int pa_nil))) (pa_cons pe_int (pa_cons (pv 3) pa_nil))))))))))), ?_⟩
  have e18 : (10 : Int) ^ (18 : Int).toNat = 10 ^ 18 := by decide
  have cut : cutV (ns.map V.int) none (some 63) = ns.map V.int := by
    unfold cutV
    rw [show HT.sIx (ns.map V.int).length 0 none = 0 from rfl, show HT.sIx (ns.map V.int).length (ns.map V.int).length (some 63) = min 63 (ns.map V.int).length from HT.sIx_nat _ _ 63]
    rw [List.drop_zero]
    exact List.take_of_length_le (by rw [List.length_map]; omega)
  refine ⟨_, rfl, _, rfl, a, _, rfl, hS, fun p1 hp1 => ⟨p1, rfl, ⟨_, SqL.of upd_same⟩, fun p hp => ?_⟩⟩
  refine lc_ints (cap := []) ns (fun n => n - 10 ^ (18 : Int).toNat) (fun n => decide ((10 : Int) ^ (18 : Int).toNat ≤ n)) (by omega) (SqL.of (by rw [upd_same, cut])) hp ?_ ?_ ?_ ?_
  · rfl
  · exact fun n H' R s r => ⟨_, rfl, _, _, rfl, rfl, pw10 (by decide) (by decide), _, _, rfl, rfl, _, rfl, r⟩
  · exact fun n H' R s r => ⟨_, rfl, _, _, rfl, rfl, pw10 (by decide) (by decide), _, _, rfl, rfl, r⟩
  intro H1 s1 h1
  have t1 : Same H H1 := (same_new hp1 _).trans s1
  have pn1 : H p = none := (same_new hp1 _).free hp
  refine ⟨_, rfl, _, rfl, a, _, rfl, t1.seq hS, fun p2 hp2 => ⟨p2, rfl, ⟨_, SqL.of upd_same⟩, fun p' hp' => ?_⟩⟩
  refine lc_ints (cap := []) ns (fun n => n % 10 ^ (18 : Int).toNat) (fun n => decide (n < (10 : Int) ^ (18 : Int).toNat)) (by omega) (SqL.of (by rw [upd_same, cut])) hp' ?_ ?_ ?_ ?_
  · rfl
  · exact fun n H' R s r => ⟨_, rfl, _, _, rfl, rfl, pw10 (by decide) (by decide), _, _, rfl, rfl, _, rfl, r⟩
  · exact fun n H' R s r => ⟨_, rfl, _, _, rfl, rfl, pw10 (by decide) (by decide), _, _, rfl, rfl, (by show (0 : Int) < 10 ^ (18 : Int).toNat; decide), r⟩
  intro H2 s2 h2
  have t12 : Same H1 H2 := (same_new hp2 _).trans s2
  have t2 : Same H H2 := t1.trans t12
  have g2 := t12 _ _ h1
  have lb : ∀ x ∈ (ns.filter fun n => decide (n < (10 : Int) ^ (18 : Int).toNat)).map (fun n => n % 10 ^ (18 : Int).toNat), 0 ≤ x ∧ x < 10 ^ 18 := fun x hx => by
    obtain ⟨y, _, rfl⟩ := List.mem_map.mp hx
    rw [e18]
    exact ⟨Int.emod_nonneg _ (by decide), Int.emod_lt_of_pos _ (by decide)⟩
  have ll := List.length_filter_le (fun n => decide (n < (10 : Int) ^ (18 : Int).toNat)) ns
  have gg := List.length_filter_le (fun n => decide ((10 : Int) ^ (18 : Int).toNat ≤ n)) ns
  generalize hls : (ns.filter fun n => decide (n < (10 : Int) ^ (18 : Int).toNat)).map (fun n => n % 10 ^ (18 : Int).toNat) = ls at *
  have lz : ls.length ≤ 63 := by rw [← hls, List.length_map]; omega
  have gz : ((ns.filter fun n => decide ((10 : Int) ^ (18 : Int).toNat ≤ n)).map fun n => n - 10 ^ (18 : Int).toNat).length ≤ 63 := by rw [List.length_map]; omega
  refine ⟨_, rfl, p', rfl, ⟨_, SqL.of h2⟩, for_list (K := K) (a := p') (xs := ls.map V.int) (fun i σ H' => ∃ (st : Int) (x4 : Option V), σ = [some (.ref a), some (.ref p), some (.ref p'), some (.int st), x4] ∧ H' = H2 ∧ 0 ≤ st ∧ st < bigM) ⟨5, none, rfl, rfl, by decide, by decide⟩ (fun i σ H' _ ⟨_, _, _, e, _⟩ => by rw [e]; exact SqL.of h2) ?_ ?_⟩
  · rintro i x σ H' hx ⟨st, x4, rfl, rfl, z0, z1⟩
    rw [List.getElem?_map] at hx
    cases hn : ls[i]? with
    | none => rw [hn] at hx; cases hx
    | some y =>
      rw [hn] at hx
      obtain rfl : V.int y = x := Option.some.inj hx
      obtain ⟨y0, y1⟩ := lb y (List.mem_of_getElem? hn)
      have big : (st + y + 1).natAbs < 2 ^ 1000 := by
        have : (st + y + 1).natAbs < 2 ^ 100 := by unfold bigM at z1; omega
        exact Nat.lt_of_lt_of_le this (by decide)
      refine ⟨_, rfl, _, rfl, _, _, rfl, rfl, _, _, rfl, rfl, _, _, rfl, rfl, ⟨by decide, by decide, big⟩, _, _, rfl, rfl, (by show (0 : Int) < 618970019642690137449562111; decide), _, _, rfl, rfl, Int.emod_nonneg _ (by decide), Int.emod_lt_of_pos _ (by decide)⟩
  · rintro σ H' ⟨st, x4, rfl, rfl, z0, z1⟩
    refine ⟨_, rfl, _, rfl, (by show 1 ≤ sizeLine; decide), fun p3 hp3 => ?_⟩
    have s3 := same_new hp3 (.lst [V.int 0])
    refine ⟨p', p3, _, _, rfl, rfl, s3 _ _ h2, upd_same, (by rw [List.length_map, List.length_singleton]; exact small (by omega)), fun p4 hp4 => ?_⟩
    have s4 := same_new hp4 (.lst (ls.map V.int ++ [V.int 0]))
    refine ⟨_, rfl, (by show 4 ≤ sizeLine; decide), fun p5 hp5 => ?_⟩
    have s5 := same_new hp5 (.lst [V.ref p, V.ref p4, V.int 0, V.int st])
    have t5 : Same H' _ := s3.trans (s4.trans s5)
    have n4 : H' p4 = none := s3.free hp4
    refine q p5 p p4 _ ⟨⟨_, ls ++ [0], 0, st, upd_same, t5 _ _ g2, ?_, gz, by simp, by rw [List.length_append]; simp; omega, ?_, by decide, by decide, z0, z1⟩, ?_⟩ (t2.trans t5) (t2.free ((s3.trans s4).free hp5)) pn1
    · refine s5 _ _ ?_
      rw [upd_same, List.map_append]
      rfl
    · intro x hx
      rcases List.mem_append.mp hx with z | z
      · exact lb x z
      · rw [List.mem_singleton.mp z]; exact ⟨by decide, by decide⟩
    · exact ne_of_none g2 n4

theorem sc_law_draw : FnScope ["bag", "many", "found", "cell"] ["bag", "many"] (defScope s_law_draw) := ⟨rfl, rfl, rfl, by decide +kernel, rfl, by decide +kernel, by decide +kernel⟩
theorem ok_law_draw {f : Addr} {fd : FuncData} (F : Fun K "_law_draw" "_law_draw" s_law_draw f fd) (B : Bl mg) {t_MOST_LETTERS : Tok} (C_MOST_LETTERS : mg "MOST_LETTERS" = some (.int 8 t_MOST_LETTERS))  : FnOk P w K mg base CX0 1 f fd ["bag", "many"] (spDraw) := by
  refine F.ok sc_law_draw (fun vs H Q E h => ?_) (fun cdv A outer s H vs Q E hr h => ?_)
  · obtain ⟨b, g, l, n, many, rfl, Bg, hn, hm, hm2, q⟩ := h
    rfl
  obtain ⟨b, g, l, n, many, rfl, Bg, hn, hm, hm2, q⟩ := h
  refine ⟨_, (pss_cons (ps_while PassesOwn.never (PW.pt (pw_and (pt_cmpR (op_neD (roomD_of hr)) (pe_ix ix_list (pv 0) pe_int (fun _ _ => rfl)) (pe_lst pa_nil) (nomark _)) (pw_and1 (pt_cmpR op_eq (pe_ix ix_list (pe_ix ix_list (pv 0) pe_int (fun _ _ => rfl)) pe_int (fun _ _ => rfl)) pe_int (nomark _))))) (pss_one (ps_expr (pe_bm PySem.F.plainAttrs_list PySem.F.slot_list_pop PySem.F.type_list_pop mt_popAt (pe_ix ix_list (pv 0) pe_int (fun _ _ => rfl)) (pa_cons pe_int pa_nil)))))
      (pss_cons (ps_if (pt_cmpR (op_neD (roomD_of hr)) (pe_ix ix_list (pv 0) pe_int (fun _ _ => rfl)) (pe_lst pa_nil) (nomark _)) (pss_cons (ps_set (i := 2) sc_law_draw.nd rfl (Or.inl rfl) (pe_op op_mod (pe_ix ix_list (pe_ix ix_list (pv 0) pe_int (fun _ _ => rfl)) pe_int (fun _ _ => rfl)) (pv 1)))
      (pss_cons (ps_asg (pe_op op_fdivW (pe_ix ix_list (pe_ix ix_list (pv 0) pe_int (fun _ _ => rfl)) pe_int (fun _ _ => rfl)) (pv 1)) (pg_sub (pe_ix ix_list (pv 0) pe_int (fun _ _ => rfl)) pe_int set_list))
      (pss_one (ps_ret (pv 2))))) pss_nil)
      (pss_cons (ps_asg (pe_op op_add (pe_ix ix_list (pv 0) pe_int (fun _ _ => rfl)) pe_int) (pg_sub (pv 0) pe_int set_list))
      (pss_cons (ps_set (i := 3) sc_law_draw.nd rfl (Or.inl rfl) (pe_ix ix_list (pe_ix ix_list (pv 0) pe_int (fun _ _ => rfl)) (pe_op op_mod (pe_ix ix_list (pv 0) pe_int (fun _ _ => rfl)) (pe_callB call_len_seq rfl B.len_ bt_len (pa_cons (pe_ix ix_list (pv 0) pe_int (fun _ _ => rfl)) pa_nil))) (fun _ _ => rfl)))
      (pss_cons (ps_asg (pe_op op_mod (pe_op op_powB (pe_op op_add (pe_ix ix_list (pv 0) pe_int (fun _ _ => rfl)) (pe_op op_mul (pe_op op_add (pv 3) (pe_op op_mul pe_int (pe_ix ix_list (pv 0) pe_int (fun _ _ => rfl)))) (pe_op op_add (pe_op op_mul pe_int (pe_ix ix_list (pv 0) pe_int (fun _ _ => rfl))) pe_int))) pe_int) pe_int) (pg_sub (pv 0) pe_int set_list))
      (pss_one (ps_ret (pe_op op_mod (pe_op op_fdivW (pe_ix ix_list (pv 0) pe_int (fun _ _ => rfl)) pe_int) (pv 1))))))))), ?_⟩
  refine while_then (fun m σ H1 => σ = [some (.ref b), some (.int many), none, none] ∧ Bag H1 b g l n ∧ SameB b g H H1 ∧ ∃ gs : List Int, H1 g = some (.lst (gs.map V.int)) ∧ gs.length = m)
    (fun σ H1 => σ = [some (.ref b), some (.int many), none, none] ∧ Bag H1 b g l n ∧ SameB b g H H1) ?_ ?_ ?_
  · obtain ⟨gs, ls, c, st, e1, e2, _⟩ := Bg.ex
    exact ⟨_, rfl, Bg, SameB.refl _ _ _, gs, e2, rfl⟩
  · rintro m σ H1 Z ⟨rfl, B1, S1, gs, e2, rfl⟩ hZ
    obtain ⟨gs', ls, c, st, e1, e2', e3, z1, z2, z3, z4, z5, z6, z7, z8⟩ := id B1.ex
    obtain rfl : gs = gs' := by
      rw [e2] at e2'
      injection e2' with e2'
      injection e2' with e2'
      exact (List.map_inj_right (fun _ _ z => by injection z)).mp e2'
    refine ⟨_, rfl, b, _, 0, _, rfl, rfl, SqL.of e1, rfl, sz0, fun p hp => ?_⟩
    have s1 := same_new hp (.lst [])
    refine neNil (SqL.of (s1 _ _ e2)) (SqL.of upd_same) ⟨_, rfl, ?_⟩
    cases gs with
    | nil => exact iteF (iteF (hZ _ _ ⟨rfl, B1.same s1, S1.trans s1.sameB⟩))
    | cons x r =>
      refine iteT ?_
      refine ⟨_, rfl, b, _, 0, _, rfl, rfl, SqL.of (s1 _ _ e1), rfl, g, _, 0, _, rfl, rfl, SqL.of (s1 _ _ e2), at0, rfl, _, rfl, ?_⟩
      refine ite2 (fun hx => ?_) (fun hx => ?_)
      · refine ⟨fun σ H2 => σ = [some (.ref b), some (.int many), none, none] ∧ Bag H2 b g l n ∧ SameB b g H H2 ∧ ∃ gs : List Int, H2 g = some (.lst (gs.map V.int)) ∧ gs.length = r.length, fun σ H2 z => ⟨r.length, Nat.lt_succ_self _, z⟩, ?_⟩
        refine ⟨_, rfl, b, _, 0, _, rfl, rfl, SqL.of (s1 _ _ e1), rfl, .inl ⟨rfl, _, SqL.of (s1 _ _ e2)⟩, g, _, 0, 0, _, rfl, rfl, s1 _ _ e2, by decide, by decide, (ixN_seq (ix0 (x := V.int x) (r := r.map V.int))).1, rfl, ?_⟩
        have e4 : (upd (upd H1 p (.lst [])) g (.lst (((x :: r).map V.int).eraseIdx 0))) g = some (.lst (r.map V.int)) := upd_same
        refine ⟨rfl, ⟨⟨r, ls, c, st, ?_, e4, ?_, ?_, z2, z3, z4, z5, z6, z7, z8⟩, B1.gl⟩, ?_, r, e4, rfl⟩
        · rw [upd_ne B1.bg]; exact s1 _ _ e1
        · rw [upd_ne (Ne.symm B1.gl)]; exact s1 _ _ e3
        · simp only [List.length_cons] at z1; omega
        · intro a o h1 h2 h3
          rw [upd_ne h3]
          exact s1 _ _ (S1 a o h1 h2 h3)
      · exact hZ _ _ ⟨rfl, B1.same s1, S1.trans s1.sameB⟩
  · rintro σ H1 ⟨rfl, B1, S1⟩
    obtain ⟨gs, ls, c, st, e1, e2, e3, z1, z2, z3, z4, z5, z6, z7, z8⟩ := id B1.ex
    refine ⟨_, rfl, b, _, 0, _, rfl, rfl, SqL.of e1, rfl, sz0, fun p hp => ?_⟩
    have s1 := same_new hp (.lst [])
    have B2 := B1.same s1
    have e1' := s1 _ _ e1
    have e2' := s1 _ _ e2
    have e3' := s1 _ _ e3
    refine neNil (SqL.of e2') (SqL.of upd_same) ⟨_, rfl, ?_⟩
    generalize upd H1 p (.lst []) = H2 at *
    have S2 : SameB b g H H2 := S1.trans s1.sameB
    clear s1
    cases gs with
    | cons x r =>
      refine iteT ?_
      refine ⟨_, rfl, b, _, 0, _, rfl, rfl, SqL.of e1', rfl, g, _, 0, _, rfl, rfl, SqL.of e2', at0, _, rfl, _, _, rfl, rfl, hm, ?_⟩
      refine ⟨_, rfl, b, _, 0, _, rfl, rfl, SqL.of e1', rfl, g, _, 0, _, rfl, rfl, SqL.of e2', at0, _, rfl, _, _, rfl, rfl, ⟨hm, Int.lt_of_lt_of_le hm2 (by decide)⟩, ?_⟩
      refine ⟨_, rfl, b, _, 0, _, rfl, rfl, SqL.of e1', rfl, g, _, 0, 0, rfl, rfl, e2', ix0, ?_⟩
      refine ⟨_, rfl, ?_⟩
      refine q _ _ (Int.emod_nonneg _ (by omega)) (Int.emod_lt_of_pos _ hm) ⟨⟨x / many :: r, ls, c, st, ?_, ?_, ?_, z1, z2, z3, z4, z5, by omega, z7, z8⟩, B1.gl⟩ ?_
      · rw [upd_ne B1.bg]; exact e1'
      · exact upd_same
      · rw [upd_ne (Ne.symm B1.gl)]; exact e3'
      · intro a o h1 h2 h3
        rw [upd_ne h3]
        exact S2 a o h1 h2 h3
    | nil =>
      refine iteF ?_
      -- bag[2] = bag[2] + 1
      refine ⟨_, rfl, b, _, 2, _, rfl, rfl, SqL.of e1', rfl, _, _, rfl, rfl, _, rfl, b, _, 2, 2, rfl, rfl, e1', rfl, ?_⟩
      have f1 : (upd H2 b (.lst ([V.ref g, V.ref l, V.int c, V.int st].set 2 (V.int (c + 1))))) b = some (.lst [V.ref g, V.ref l, V.int (c + 1), V.int st]) := upd_same
      have f2 : (upd H2 b (.lst ([V.ref g, V.ref l, V.int c, V.int st].set 2 (V.int (c + 1))))) g = some (.lst []) := by rw [upd_ne (Ne.symm B1.bg)]; exact e2'
      have f3 : (upd H2 b (.lst ([V.ref g, V.ref l, V.int c, V.int st].set 2 (V.int (c + 1))))) l = some (.lst (ls.map V.int)) := by rw [upd_ne (Ne.symm B1.bl)]; exact e3'
      have S3 : SameB b g H (upd H2 b (.lst ([V.ref g, V.ref l, V.int c, V.int st].set 2 (V.int (c + 1))))) := fun a o h1 h2 h3 => by rw [upd_ne h2]; exact S2 a o h1 h2 h3
      generalize upd H2 b (.lst ([V.ref g, V.ref l, V.int c, V.int st].set 2 (V.int (c + 1)))) = H3 at *
      -- cell = bag[1][bag[2] % len(bag[1])]
      have lpos : (0 : Int) < ((ls.map V.int).length : Int) := by rw [List.length_map]; omega
      have i0 := Int.emod_nonneg (c + 1) (Int.ne_of_gt lpos)
      have i1 := Int.emod_lt_of_pos (c + 1) lpos
      obtain ⟨v, hv, hvm⟩ := atInts (ls := ls) i0 (by rw [List.length_map] at i1 ⊢; exact i1)
      obtain ⟨v0, v1⟩ := z4 v hvm
      refine ⟨_, rfl, b, _, 1, _, rfl, rfl, SqL.of f1, rfl, _, rfl, b, _, 2, _, rfl, rfl, SqL.of f1, rfl, _, rfl, b, _, 1, _, rfl, rfl, SqL.of f1, rfl, l, _, rfl, .inl (SqL.of f3), _, _, rfl, rfl, lpos, l, _, _, _, rfl, rfl, SqL.of f3, hv, ?_⟩
      -- the stir
      have c1 : 0 ≤ c + 1 := by omega
      have c2 : c + 1 ≤ 2 ^ 41 := by omega
      refine ⟨_, rfl, b, _, 3, _, rfl, rfl, SqL.of f1, rfl, _, rfl, _, rfl, b, _, 2, _, rfl, rfl, SqL.of f1, rfl, _, _, rfl, rfl, .inl ⟨by decide, by decide⟩, _, _, rfl, rfl, _, rfl, b, _, 2, _, rfl, rfl, SqL.of f1, rfl, _, _, rfl, rfl, .inl ⟨by decide, by decide⟩, _, _, rfl, rfl, _, _, rfl, rfl, .inr ⟨by omega, by omega⟩, _, _, rfl, rfl, ?_⟩
      have big : (st + (v + 3 * (c + 1)) * (2 * (c + 1) + 1)).natAbs < 2 ^ 1000 := by
        have a1 : 0 ≤ v + 3 * (c + 1) := by omega
        have a2 : v + 3 * (c + 1) ≤ 2 ^ 61 := by omega
        have a3 : 0 ≤ 2 * (c + 1) + 1 := by omega
        have a4 : 2 * (c + 1) + 1 ≤ 2 ^ 43 := by omega
        have a5 : (v + 3 * (c + 1)) * (2 * (c + 1) + 1) ≤ 2 ^ 61 * 2 ^ 43 := Int.mul_le_mul a2 a4 a3 (by decide)
        have a6 : 0 ≤ (v + 3 * (c + 1)) * (2 * (c + 1) + 1) := Int.mul_nonneg a1 a3
        generalize (v + 3 * (c + 1)) * (2 * (c + 1) + 1) = y at *
        have a7 : st + y < 2 ^ 105 := by unfold bigM at z8; omega
        have a8 : (st + y).natAbs < 2 ^ 105 := by omega
        exact Nat.lt_of_lt_of_le a8 (by decide)
      refine ⟨_, _, rfl, rfl, ⟨by decide, by decide, big⟩, _, _, rfl, rfl, (by show (0 : Int) < 618970019642690137449562111; decide), ?_⟩
      dsimp only
      generalize (st + (v + 3 * (c + 1)) * (2 * (c + 1) + 1)) ^ (7 : Int).toNat = y
      refine ⟨_, rfl, b, _, 3, 3, rfl, rfl, f1, rfl, ?_⟩
      dsimp only
      have y0 := Int.emod_nonneg y (show (618970019642690137449562111 : Int) ≠ 0 by decide)
      have y1 := Int.emod_lt_of_pos y (show (0 : Int) < 618970019642690137449562111 by decide)
      generalize y % 618970019642690137449562111 = u at *
      have k1 : (upd H3 b (.lst ([V.ref g, V.ref l, V.int (c + 1), V.int st].set 3 (V.int u)))) b = some (.lst [V.ref g, V.ref l, V.int (c + 1), V.int u]) := upd_same
      refine ⟨_, rfl, b, _, 3, _, rfl, rfl, SqL.of k1, rfl, _, _, rfl, rfl, ⟨by decide, by decide⟩, _, rfl, _, _, rfl, rfl, hm, ?_⟩
      refine q _ _ (Int.emod_nonneg _ (by omega)) (Int.emod_lt_of_pos _ hm) ⟨⟨[], ls, c + 1, u, k1, ?_, ?_, z1, z2, z3, z4, c1, by omega, y0, y1⟩, B1.gl⟩ ?_
      · rw [upd_ne (Ne.symm B1.bg)]; exact f2
      · rw [upd_ne (Ne.symm B1.bl)]; exact f3
      · intro a o h1 h2 h3
        rw [upd_ne h2]
        exact S3 a o h1 h2 h3

theorem sc_law_number : FnScope ["bag", "choice", "number"] ["bag"] (defScope s_law_number) := ⟨rfl, rfl, rfl, by decide +kernel, rfl, by decide +kernel, by decide +kernel⟩
theorem ok_law_number {f : Addr} {fd : FuncData} (F : Fun K "_law_number" "_law_number" s_law_number f fd) (B : Bl mg) {t_MOST_LETTERS : Tok} (C_MOST_LETTERS : mg "MOST_LETTERS" = some (.int 8 t_MOST_LETTERS)) (G_law_draw : FnH P w K mg base 1 "_law_draw" ["bag", "many"] (spDraw)) : FnOk P w K mg base CX0 2 f fd ["bag"] (spNumber) := by
  refine F.ok sc_law_number (fun vs H Q E h => ?_) (fun cdv A outer s H vs Q E hr h => ?_)
  · obtain ⟨b, g, l, n, rfl, Bg, hn, q⟩ := h
    rfl
  obtain ⟨b, g, l, n, rfl, Bg, hn, q⟩ := h
  refine ⟨_, (pss_cons (ps_set (i := 1) sc_law_number.nd rfl (Or.inl rfl) (pe_fn G_law_draw (hr.mono (by decide)) rfl (pa_cons (pv 0) (pa_cons pe_int pa_nil))))
      (pss_cons (ps_if (pt_cmpR op_eq (pv 1) pe_int (nomark _)) (pss_one (ps_ret (pe_op op_sub (pe_fn G_law_draw (hr.mono (by decide)) rfl (pa_cons (pv 0) (pa_cons pe_int pa_nil))) pe_int))) pss_nil)
      (pss_cons (ps_if (pt_cmpR op_eq (pv 1) pe_int (nomark _)) (pss_one (ps_ret (pe_op op_sub (pe_fn G_law_draw (hr.mono (by decide)) rfl (pa_cons (pv 0) (pa_cons pe_int pa_nil))) pe_int))) pss_nil)
      (pss_cons (ps_if (pt_cmpR op_eq (pv 1) pe_int (nomark _)) (pss_one (ps_ret (pe_op op_mul (pe_ix ix_list (pe_lst (pa_cons pe_int (pa_cons (pe_un un_neg pe_int) pa_nil))) (pe_fn G_law_draw (hr.mono (by decide)) rfl (pa_cons (pv 0) (pa_cons pe_int pa_nil))) (fun _ _ => rfl)) (pe_op op_sub (pe_op op_sub (pe_op op_powB pe_int pe_int) pe_int) (pe_fn G_law_draw (hr.mono (by decide)) rfl (pa_cons (pv 0) (pa_cons pe_int pa_nil))))))) pss_nil)
      (pss_cons (ps_set (i := 2) sc_law_number.nd rfl (Or.inl rfl) (pe_fn G_law_draw (hr.mono (by decide)) rfl (pa_cons (pv 0) (pa_cons (pe_op op_powB pe_int pe_int) pa_nil))))
      (pss_one (ps_ret (pe_ifExp (pt_cmpR op_eq (pv 1) pe_int (nomark _)) (pv 2) (pe_op op_sub pe_int (pv 2)))))))))), ?_⟩
  refine ⟨_, rfl, b, g, l, n, 5, rfl, Bg, by omega, by decide, by decide, fun c H1 c0 c1 B1 S1 => ?_⟩
  refine ⟨_, rfl, rfl, _, rfl, ite2 (fun _ => ?_) (fun _ => ?_)⟩
  · exact ⟨_, rfl, b, g, l, _, 9, rfl, B1, by omega, by decide, by decide, fun r H2 r0 r1 B2 S2 => ⟨_, _, rfl, rfl, q _ _ (by show -1000000000000000 < r - 4; omega) (by show r - 4 < 1000000000000000; omega) (B2.mono (by omega)) (S1.trans S2)⟩⟩
  refine ⟨_, rfl, rfl, _, rfl, ite2 (fun _ => ?_) (fun _ => ?_)⟩
  · exact ⟨_, rfl, b, g, l, _, 2000, rfl, B1, by omega, by decide, by decide, fun r H2 r0 r1 B2 S2 => ⟨_, _, rfl, rfl, q _ _ (by show -1000000000000000 < r - 1000; omega) (by show r - 1000 < 1000000000000000; omega) (B2.mono (by omega)) (S1.trans S2)⟩⟩
  refine ⟨_, rfl, rfl, _, rfl, ite2 (fun _ => ?_) (fun _ => ?_)⟩
  · refine ⟨_, rfl, (by show 2 ≤ sizeLine; decide), fun p hp => ?_⟩
    have s1 := same_new hp (.lst [V.int 1, V.int (-1)])
    obtain ⟨pb, pg, _⟩ := B1.free hp
    refine ⟨_, rfl, b, g, l, _, 2, rfl, B1.same s1, by omega, by decide, by decide, fun r H2 r0 r1 B2 S2 => ?_⟩
    have hr' : r = 0 ∨ r = 1 := by omega
    obtain ⟨v, hv, v0, v1⟩ : ∃ v, atI [V.int 1, V.int (-1)] r = some (.int v) ∧ -1 ≤ v ∧ v ≤ 1 ∧ (v = 1 ∨ v = -1) := by
      rcases hr' with rfl | rfl
      · exact ⟨1, rfl, by decide, by decide, .inl rfl⟩
      · exact ⟨-1, rfl, by decide, by decide, .inr rfl⟩
    refine ⟨p, _, _, _, rfl, rfl, SqL.of (S2 p _ upd_same pb pg), hv, _, _, rfl, rfl, pw10 (by decide) (by decide), _, _, rfl, rfl, _, rfl, b, g, l, _, 3, rfl, B2, by omega, by decide, by decide, fun r3 H3 r30 r31 B3 S3 => ?_⟩
    refine ⟨_, _, rfl, rfl, _, _, rfl, rfl, .inl ⟨by omega, by omega⟩, q _ _ ?_ ?_ (B3.mono (by omega)) ((S1.trans (s1.sameB.trans S2)).trans S3)⟩
    all_goals
      rw [e15]
      rcases v1.2 with rfl | rfl
      all_goals (unfold T15; omega)
  refine ⟨_, rfl, _, _, rfl, rfl, pw10 (by decide) (by decide), b, g, l, _, _, rfl, B1, by omega, by decide, by decide, fun r H2 r0 r1 B2 S2 => ?_⟩
  have r1 : r < T15 := by rw [← e15]; exact r1
  refine ⟨_, rfl, rfl, _, rfl, ite2 (fun _ => ⟨_, rfl, q _ _ (by unfold T15; omega) r1 (B2.mono (by omega)) (S1.trans S2)⟩) (fun _ => ⟨_, rfl, _, _, rfl, rfl, q _ _ (by unfold T15 at *; omega) (by unfold T15 at *; omega) (B2.mono (by omega)) (S1.trans S2)⟩)⟩

theorem sc_law_held : FnScope ["number"] ["number"] (defScope s_law_held) := ⟨rfl, rfl, rfl, by decide +kernel, rfl, by decide +kernel, by decide +kernel⟩
theorem ok_law_held {f : Addr} {fd : FuncData} (F : Fun K "_law_held" "_law_held" s_law_held f fd) (B : Bl mg) {t_MOST_LETTERS : Tok} (C_MOST_LETTERS : mg "MOST_LETTERS" = some (.int 8 t_MOST_LETTERS))  : FnOk P w K mg base CX0 1 f fd ["number"] (spHeld) := by
  refine F.ok sc_law_held (fun vs H Q E h => ?_) (fun cdv A outer s H vs Q E hr h => ?_)
  · obtain ⟨i, rfl, q⟩ := h
    rfl
  obtain ⟨i, rfl, q⟩ := h
  refine ⟨_, (pss_one (ps_ret (pe_callB (call_max2 rfl) rfl B.max_ bt_max (pa_cons (pe_op op_sub pe_int (pe_op op_powB pe_int pe_int)) (pa_cons (pe_callB (call_min2 rfl) rfl B.min_ bt_min (pa_cons (pe_op op_sub (pe_op op_powB pe_int pe_int) pe_int) (pa_cons (pv 0) pa_nil))) pa_nil))))), ?_⟩
  exact ⟨_, _, rfl, rfl, pw10 (by decide) (by decide), _, _, rfl, rfl, _, _, rfl, rfl, pw10 (by decide) (by decide), _, _, rfl, rfl, _, rfl, _, _, rfl, _, _, rfl, q⟩

theorem sc_law_span : FnScope ["bag", "choice", "low", "high"] ["bag"] (defScope s_law_span) := ⟨rfl, rfl, rfl, by decide +kernel, rfl, by decide +kernel, by decide +kernel⟩
theorem ok_law_span {f : Addr} {fd : FuncData} (F : Fun K "_law_span" "_law_span" s_law_span f fd) (B : Bl mg) {t_MOST_LETTERS : Tok} (C_MOST_LETTERS : mg "MOST_LETTERS" = some (.int 8 t_MOST_LETTERS)) (G_law_draw : FnH P w K mg base 1 "_law_draw" ["bag", "many"] (spDraw)) (G_law_number : FnH P w K mg base 2 "_law_number" ["bag"] (spNumber)) (G_law_held : FnH P w K mg base 1 "_law_held" ["number"] (spHeld)) : FnOk P w K mg base CX0 3 f fd ["bag"] (spSpan) := by
  refine F.ok sc_law_span (fun vs H Q E h => ?_) (fun cdv A outer s H vs Q E hr h => ?_)
  · obtain ⟨b, g, l, n, rfl, Bg, hn, q⟩ := h
    rfl
  obtain ⟨b, g, l, n, rfl, Bg, hn, q⟩ := h
  refine ⟨_, (pss_cons (ps_set (i := 1) sc_law_span.nd rfl (Or.inl rfl) (pe_fn G_law_draw (hr.mono (by decide)) rfl (pa_cons (pv 0) (pa_cons pe_int pa_nil))))
      (pss_cons (ps_set (i := 2) sc_law_span.nd rfl (Or.inl rfl) (pe_fn G_law_number (hr.mono (by decide)) rfl (pa_cons (pv 0) pa_nil)))
      (pss_cons (ps_if (pt_cmpR op_eq (pv 1) pe_int (nomark _)) (pss_one (ps_ret (pe_tup (pa_cons pe_non (pa_cons pe_non pa_nil))))) pss_nil)
      (pss_cons (ps_if (pt_cmpR op_eq (pv 1) pe_int (nomark _)) (pss_one (ps_ret (pe_tup (pa_cons pe_non (pa_cons (pv 2) pa_nil))))) pss_nil)
      (pss_cons (ps_if (pt_cmpR op_eq (pv 1) pe_int (nomark _)) (pss_one (ps_ret (pe_tup (pa_cons (pv 2) (pa_cons pe_non pa_nil))))) pss_nil)
      (pss_cons (ps_if (pt_cmpR op_eq (pv 1) pe_int (nomark _)) (pss_one (ps_ret (pe_tup (pa_cons (pv 2) (pa_cons (pv 2) pa_nil))))) pss_nil)
      (pss_cons (ps_if (pt_cmpR op_lt (pv 1) pe_int (nomark _)) (pss_one (ps_ret (pe_tup (pa_cons (pv 2) (pa_cons (pe_fn G_law_held (hr.mono (by decide)) rfl (pa_cons (pe_op op_add (pe_op op_add (pv 2) pe_int) (pe_fn G_law_draw (hr.mono (by decide)) rfl (pa_cons (pv 0) (pa_cons pe_int pa_nil)))) pa_nil)) pa_nil))))) pss_nil)
      (pss_cons (ps_set (i := 3) sc_law_span.nd rfl (Or.inl rfl) (pe_fn G_law_number (hr.mono (by decide)) rfl (pa_cons (pv 0) pa_nil)))
      (pss_one (ps_ret (pe_tup (pa_cons (pe_callB (call_min2 rfl) rfl B.min_ bt_min (pa_cons (pv 2) (pa_cons (pv 3) pa_nil))) (pa_cons (pe_callB (call_max2 rfl) rfl B.max_ bt_max (pa_cons (pv 2) (pa_cons (pv 3) pa_nil))) pa_nil))))))))))))), ?_⟩
  have fin : ∀ (lo hi : Option Int) (H2 : Hp), Bag H2 b g l (n + 8) → SameB b g H H2 → Good lo hi → ∀ t, H2 t = none → Q (.ref t) (upd H2 t (.tup [eV lo, eV hi])) := fun lo hi H2 B2 S2 G2 t ht =>
    q _ lo hi _ ⟨t, rfl, upd_same⟩ G2 (B2.same (same_new ht _)) (S2.trans (same_new ht _).sameB)
  have none_in : inT none := fun i z => by cases z
  refine ⟨_, rfl, b, g, l, n, 7, rfl, Bg, by omega, by decide, by decide, fun c H1 c0 c1 B1 S1 => ?_⟩
  refine ⟨_, rfl, b, g, l, _, rfl, B1, by omega, fun x H2 x0 x1 B2 S2 => ?_⟩
  have S3 := S1.trans S2
  have B3 : Bag H2 b g l (n + 8) := B2.mono (by omega)
  have x_in : inT (some x) := fun i z => by injection z with z; subst z; exact ⟨x0, x1⟩
  refine ⟨_, rfl, rfl, _, rfl, ite2 (fun _ => ⟨(by show 2 ≤ sizeLine; decide), fin none none _ B3 S3 ⟨rfl, none_in, none_in⟩⟩) (fun _ => ?_)⟩
  refine ⟨_, rfl, rfl, _, rfl, ite2 (fun _ => ⟨_, rfl, (by show 2 ≤ sizeLine; decide), fin none (some x) _ B3 S3 ⟨rfl, none_in, x_in⟩⟩) (fun _ => ?_)⟩
  refine ⟨_, rfl, rfl, _, rfl, ite2 (fun _ => ⟨_, rfl, (by show 2 ≤ sizeLine; decide), fin (some x) none _ B3 S3 ⟨rfl, x_in, none_in⟩⟩) (fun _ => ?_)⟩
  refine ⟨_, rfl, rfl, _, rfl, ite2 (fun _ => ⟨_, rfl, _, rfl, (by show 2 ≤ sizeLine; decide), fin (some x) (some x) _ B3 S3 ⟨decide_eq_true (Int.le_refl x), x_in, x_in⟩⟩) (fun _ => ?_)⟩
  refine ⟨_, rfl, _, _, rfl, rfl, _, rfl, ite2 (fun _ => ?_) (fun _ => ?_)⟩
  · refine ⟨_, rfl, _, rfl, _, _, rfl, rfl, _, rfl, b, g, l, _, 12, rfl, B2, by omega, by decide, by decide, fun r H4 r0 r1 B4 S4 => ?_⟩
    refine ⟨_, _, rfl, rfl, _, rfl, (by show 2 ≤ sizeLine; decide), ?_⟩
    have hh := heldF_eq (x + 1 + r)
    refine fin (some x) (some (heldF (x + 1 + r))) _ (B4.mono (by omega)) (S3.trans S4) ⟨decide_eq_true ?_, x_in, fun i z => ?_⟩
    · unfold T15 at *; omega
    · injection z with z; subst z; unfold T15 at *; omega
  · refine ⟨_, rfl, b, g, l, _, rfl, B2, by omega, fun y H4 y0 y1 B4 S4 => ?_⟩
    refine ⟨_, rfl, _, rfl, _, _, rfl, _, rfl, _, rfl, _, _, rfl, (by show 2 ≤ sizeLine; decide), ?_⟩
    refine fin (some (if y < x then y else x)) (some (if y > x then y else x)) _ (B4.mono (by omega)) (S3.trans S4) ⟨decide_eq_true ?_, fun i z => ?_, fun i z => ?_⟩
    · split <;> split <;> omega
    · injection z with z; subst z; split <;> omega
    · injection z with z; subst z; split <;> omega

theorem sc_law_in : FnScope ["span", "number"] ["span", "number"] (defScope s_law_in) := ⟨rfl, rfl, rfl, by decide +kernel, rfl, by decide +kernel, by decide +kernel⟩
theorem ok_law_in {f : Addr} {fd : FuncData} (F : Fun K "_law_in" "_law_in" s_law_in f fd) (B : Bl mg) {t_MOST_LETTERS : Tok} (C_MOST_LETTERS : mg "MOST_LETTERS" = some (.int 8 t_MOST_LETTERS))  : FnOk P w K mg base CX0 1 f fd ["span", "number"] (spIn) := by
  refine F.ok sc_law_in (fun vs H Q E h => ?_) (fun cdv A outer s H vs Q E hr h => ?_)
  · obtain ⟨v, lo, hi, k, rfl, S1, q⟩ := h
    rfl
  obtain ⟨v, lo, hi, k, rfl, S1, q⟩ := h
  refine ⟨_, (pss_cons (ps_if (PW.pt (pw_and (pt_cmp (pc_notN (pe_ix ix_tup (pv 0) pe_int (fun _ _ => rfl)))) (pw_and1 (pt_cmpR op_lt (pv 1) (pe_ix ix_tup (pv 0) pe_int (fun _ _ => rfl)) (nomark _))))) (pss_one (ps_ret pe_bl)) pss_nil)
      (pss_one (ps_ret (pe_or (pe_cmp (pc_isN (pe_ix ix_tup (pv 0) pe_int (fun _ _ => rfl)))) (pe_one (pe_cmpR op_le (pv 1) (pe_ix ix_tup (pv 0) pe_int (fun _ _ => rfl)) (nomark _))))))), ?_⟩
  obtain ⟨a, rfl, e1⟩ := S1
  refine ⟨_, rfl, a, _, 0, _, rfl, rfl, SqT.of e1, rfl, _, rfl, ?_⟩
  cases lo with
  | none =>
    refine iteF (iteF ⟨_, rfl, a, _, 1, _, rfl, rfl, SqT.of e1, rfl, _, rfl, ?_⟩)
    cases hi with
    | none => exact iteT q
    | some h => exact iteF ⟨_, rfl, _, rfl, a, _, 1, _, rfl, rfl, SqT.of e1, rfl, _, _, rfl, rfl, q⟩
  | some l =>
    refine iteT ⟨_, rfl, _, rfl, a, _, 0, _, rfl, rfl, SqT.of e1, rfl, _, _, rfl, rfl, _, rfl, ?_⟩
    refine ite2 (fun h => ?_) (fun h => ?_)
    · have h : k < l := of_decide_eq_true h
      have z : inB (some l) hi k = false := by
        simp only [inB, loB]
        rw [decide_eq_false (by omega)]
        rfl
      rw [z] at q
      exact q
    · have h : ¬ k < l := fun z => h (decide_eq_true z)
      have z : inB (some l) hi k = hiB hi k := by
        simp only [inB, loB]
        rw [decide_eq_true (by omega)]
        exact Bool.true_and _
      rw [z] at q
      refine ⟨_, rfl, a, _, 1, _, rfl, rfl, SqT.of e1, rfl, _, rfl, ?_⟩
      cases hi with
      | none => exact iteT q
      | some h => exact iteF ⟨_, rfl, _, rfl, a, _, 1, _, rfl, rfl, SqT.of e1, rfl, _, _, rfl, rfl, q⟩

theorem sc_law_field : FnScope ["bag", "choice", "some"] ["bag"] (defScope s_law_field) := ⟨rfl, rfl, rfl, by decide +kernel, rfl, by decide +kernel, by decide +kernel⟩
theorem ok_law_field {f : Addr} {fd : FuncData} (F : Fun K "_law_field" "_law_field" s_law_field f fd) (B : Bl mg) {t_MOST_LETTERS : Tok} (C_MOST_LETTERS : mg "MOST_LETTERS" = some (.int 8 t_MOST_LETTERS)) (G_law_draw : FnH P w K mg base 1 "_law_draw" ["bag", "many"] (spDraw)) : FnOk P w K mg base CX0 2 f fd ["bag"] (spLawField) := by
  refine F.ok sc_law_field (fun vs H Q E h => ?_) (fun cdv A outer s H vs Q E hr h => ?_)
  · obtain ⟨b, g, l, n, rfl, Bg, hn, q⟩ := h
    rfl
  obtain ⟨b, g, l, n, rfl, Bg, hn, q⟩ := h
  refine ⟨_, (pss_cons (ps_set (i := 1) sc_law_field.nd rfl (Or.inl rfl) (pe_fn G_law_draw (hr.mono (by decide)) rfl (pa_cons (pv 0) (pa_cons pe_int pa_nil))))
      (pss_cons (ps_set (i := 2) sc_law_field.nd rfl (Or.inr rfl) pe_str)
      (pss_cons (ps_if (pt_cmpR op_eq (pv 1) pe_int (nomark _)) (pss_one (ps_ret (pe_bm PySem.F.plainAttrs_str PySem.F.slot_str_join PySem.F.type_str_join mt_join pe_str (pa_cons (pe_lc (N' := ["k", "bag", "some"]) (js := [none, some 0, some 2]) rfl (capOk (N := ["bag", "choice", "some"]) (outer := defScope s_law_field) (by decide +kernel)) (pi_range1 rfl B.range_ (pa_cons (pe_op op_add pe_int (pe_fn G_law_draw (hr.mono (by decide)) rfl (pa_cons (pv 0) (pa_cons pe_int pa_nil)))) pa_nil)) (fun _ _ _ _ _ => (pg_name (i := 0) (show List.Nodup (["k", "bag", "some"] : List Str) by decide +kernel) rfl (Or.inl rfl))) (fun _ _ _ _ _ => pifs_nil) (fun _ _ _ _ _ => (pe_ix ix_str (pv 2) (pe_fn G_law_draw (hr.mono (by decide)) rfl (pa_cons (pv 1) (pa_cons pe_int pa_nil))) (fun _ _ => rfl)))) pa_nil)))) pss_nil)
      (pss_one (ps_ret (pe_bm PySem.F.plainAttrs_str PySem.F.slot_str_join PySem.F.type_str_join mt_join pe_str (pa_cons (pe_lc (N' := ["k", "bag", "some"]) (js := [none, some 0, some 2]) rfl (capOk (N := ["bag", "choice", "some"]) (outer := defScope s_law_field) (by decide +kernel)) (pi_range1 rfl B.range_ (pa_cons (pe_op op_add pe_int (pe_fn G_law_draw (hr.mono (by decide)) rfl (pa_cons (pv 0) (pa_cons pe_int pa_nil)))) pa_nil)) (fun _ _ _ _ _ => (pg_name (i := 0) (show List.Nodup (["k", "bag", "some"] : List Str) by decide +kernel) rfl (Or.inl rfl))) (fun _ _ _ _ _ => pifs_nil) (fun _ _ _ _ _ => (pe_ix ix_str (pv 2) (pe_op op_mul (pe_fn G_law_draw (hr.mono (by decide)) rfl (pa_cons (pv 1) (pa_cons pe_int pa_nil))) pe_int) (fun _ _ => rfl)))) pa_nil))))))), ?_⟩
  refine ⟨_, rfl, b, g, l, n, 3, rfl, Bg, by omega, by decide, by decide, fun c0 H1 c1 c2 B1 S1 => ?_⟩
  refine ⟨_, rfl, rfl, _, rfl, ite2 (fun _ => ?_) (fun _ => ?_)⟩
  · refine ⟨rfl, _, rfl, b, g, l, _, 8, rfl, B1, by omega, by decide, by decide, fun r H2 r0 r1 B2 S2 => ?_⟩
    refine ⟨_, _, rfl, rfl, _, rfl, by omega, by omega, fun p hp => ?_⟩
    obtain ⟨pb, pg, pl⟩ := B2.free hp
    have s3 := same_new hp (.lst [])
    have S12 := S1.trans S2
    refine lc_range (n := (1 + r).toNat) (fun i σ' ys H' => (∃ v, σ' = [v, some (.ref b), some (.str "abcdefghijklmnopqrstuvwxyz")]) ∧ SameB b g H H' ∧ Bag H' b g l (n + 2 + i) ∧ H' p = some (.lst ys) ∧ ∃ cs : List Nat, ys = (cs.map fun c => (⟨#[c]⟩ : Str)).map V.str ∧ cs.length = i ∧ ∀ c ∈ cs, letterOk c = true) ?_ ?_ ?_ ?_
    · exact ⟨⟨none, rfl⟩, S12.trans s3.sameB, (B2.same s3).mono (by omega), upd_same, [], rfl, rfl, fun c hc => by simp at hc⟩
    · rintro i σ' ys H' hi ⟨_, _, _, h1, cs, rfl, h2, _⟩
      exact ⟨h1, by rw [List.length_map, List.length_map, h2]; exact small1000 (by omega)⟩
    · rintro i σ' ys H4 N hi ⟨⟨v, rfl⟩, S4, B4, h1, cs, rfl, h2, h3⟩ hN
      refine ⟨_, rfl, _, rfl, b, g, l, _, 26, rfl, B4, by omega, by decide, by decide, fun k H5 k0 k1 B5 S5 => ?_⟩
      obtain ⟨c, hc, ok⟩ := az_at k0 k1
      have h5 := S5 _ _ h1 pb pg
      refine ⟨_, _, c, rfl, rfl, (by show 26 ≤ sizeLine; decide), hc, h5, hN _ _ _ ⟨⟨_, rfl⟩, ?_, ?_, upd_same, cs ++ [c], ?_, ?_, ?_⟩⟩
      · have np : H p = none := S12.none hp pb pg
        exact (S4.trans S5).off np
      · exact (B5.off pb pg pl).mono (by omega)
      · rw [List.map_append, List.map_append]; rfl
      · rw [List.length_append, h2]; rfl
      · intro c' hc'
        rcases List.mem_append.mp hc' with z | z
        · exact h3 c' z
        · rw [List.mem_singleton.mp z]; exact ok
    · rintro σ' ys H4 ⟨_, S4, B4, h1, cs, rfl, h2, h3⟩
      refine ⟨_, _, _, rfl, rfl, SqL.of h1, join_ok cs (by omega), q _ _ (join_field (by omega) (by omega) h3) (B4.mono (by omega)) S4⟩
  · refine ⟨rfl, _, rfl, b, g, l, _, 4, rfl, B1, by omega, by decide, by decide, fun r H2 r0 r1 B2 S2 => ?_⟩
    refine ⟨_, _, rfl, rfl, _, rfl, by omega, by omega, fun p hp => ?_⟩
    obtain ⟨pb, pg, pl⟩ := B2.free hp
    have s3 := same_new hp (.lst [])
    have S12 := S1.trans S2
    refine lc_range (n := (1 + r).toNat) (fun i σ' ys H' => (∃ v, σ' = [v, some (.ref b), some (.str "abcdefghijklmnopqrstuvwxyz")]) ∧ SameB b g H H' ∧ Bag H' b g l (n + 2 + i) ∧ H' p = some (.lst ys) ∧ ∃ cs : List Nat, ys = (cs.map fun c => (⟨#[c]⟩ : Str)).map V.str ∧ cs.length = i ∧ ∀ c ∈ cs, letterOk c = true) ?_ ?_ ?_ ?_
    · exact ⟨⟨none, rfl⟩, S12.trans s3.sameB, (B2.same s3).mono (by omega), upd_same, [], rfl, rfl, fun c hc => by simp at hc⟩
    · rintro i σ' ys H' hi ⟨_, _, _, h1, cs, rfl, h2, _⟩
      exact ⟨h1, by rw [List.length_map, List.length_map, h2]; exact small1000 (by omega)⟩
    · rintro i σ' ys H4 N hi ⟨⟨v, rfl⟩, S4, B4, h1, cs, rfl, h2, h3⟩ hN
      refine ⟨_, rfl, _, rfl, b, g, l, _, 2, rfl, B4, by omega, by decide, by decide, fun k H5 k0 k1 B5 S5 => ?_⟩
      obtain ⟨c, hc, ok⟩ := az_at (r := k * 25) (by omega) (by omega)
      refine ⟨_, _, rfl, rfl, .inl ⟨by omega, by omega⟩, ?_⟩
      have h5 := S5 _ _ h1 pb pg
      refine ⟨_, _, c, rfl, rfl, (by show 26 ≤ sizeLine; decide), hc, h5, hN _ _ _ ⟨⟨_, rfl⟩, ?_, ?_, upd_same, cs ++ [c], ?_, ?_, ?_⟩⟩
      · have np : H p = none := S12.none hp pb pg
        exact (S4.trans S5).off np
      · exact (B5.off pb pg pl).mono (by omega)
      · rw [List.map_append, List.map_append]; rfl
      · rw [List.length_append, h2]; rfl
      · intro c' hc'
        rcases List.mem_append.mp hc' with z | z
        · exact h3 c' z
        · rw [List.mem_singleton.mp z]; exact ok
    · rintro σ' ys H4 ⟨_, S4, B4, h1, cs, rfl, h2, h3⟩
      refine ⟨_, _, _, rfl, rfl, SqL.of h1, join_ok cs (by omega), q _ _ (join_field (by omega) (by omega) h3) (B4.mono (by omega)) S4⟩

theorem sc_law_fields : FnScope ["bag", "most"] ["bag", "most"] (defScope s_law_fields) := ⟨rfl, rfl, rfl, by decide +kernel, rfl, by decide +kernel, by decide +kernel⟩
theorem ok_law_fields {f : Addr} {fd : FuncData} (F : Fun K "_law_fields" "_law_fields" s_law_fields f fd) (B : Bl mg) {t_MOST_LETTERS : Tok} (C_MOST_LETTERS : mg "MOST_LETTERS" = some (.int 8 t_MOST_LETTERS)) (G_law_field : FnH P w K mg base 2 "_law_field" ["bag"] (spLawField)) (G_law_draw : FnH P w K mg base 1 "_law_draw" ["bag", "many"] (spDraw)) : FnOk P w K mg base CX0 3 f fd ["bag", "most"] (spLawFields) := by
  refine F.ok sc_law_fields (fun vs H Q E h => ?_) (fun cdv A outer s H vs Q E hr h => ?_)
  · obtain ⟨b, g, l, n, most, rfl, Bg, hn, m0, m9, q⟩ := h
    rfl
  obtain ⟨b, g, l, n, most, rfl, Bg, hn, m0, m9, q⟩ := h
  refine ⟨_, (pss_one (ps_ret (pe_sortset rfl (pe_lc (N' := ["k", "bag"]) (js := [none, some 0]) rfl (capOk (N := ["bag", "most"]) (outer := defScope s_law_fields) (by decide +kernel)) (pi_range1 rfl B.range_ (pa_cons (pe_fn G_law_draw (hr.mono (by decide)) rfl (pa_cons (pv 0) (pa_cons (pe_op op_add (pv 1) pe_int) pa_nil))) pa_nil)) (fun _ _ _ _ _ => (pg_name (i := 0) (show List.Nodup (["k", "bag"] : List Str) by decide +kernel) rfl (Or.inl rfl))) (fun _ _ _ _ _ => pifs_nil) (fun _ _ _ _ _ => (pe_fn G_law_field (hr.mono (by decide)) rfl (pa_cons (pv 1) pa_nil)))) rfl B.sorted_ rfl B.set_))), ?_⟩
  have big : most + 1 < 2 ^ 500 := by have : (10 : Int) < 2 ^ 500 := by decide
                                      omega
  refine ⟨_, rfl, _, rfl, _, _, rfl, rfl, b, g, l, n, _, rfl, Bg, by omega, by omega, big, fun r H1 r0 r1 B1 S1 => ?_⟩
  refine ⟨_, rfl, by omega, by omega, fun p hp => ?_⟩
  obtain ⟨pb, pg, pl⟩ := B1.free hp
  have np : H p = none := S1.none hp pb pg
  have s3 := same_new hp (.lst [])
  refine lc_range (n := r.toNat) (fun i σ' ys H' => (∃ v, σ' = [v, some (.ref b)]) ∧ SameB b g H H' ∧ Bag H' b g l (n + 1 + 12 * i) ∧ H' p = some (.lst ys) ∧ ∃ ts : List Str, ys = ts.map V.str ∧ ts.length = i ∧ ∀ t ∈ ts, FieldOk t) ?_ ?_ ?_ ?_
  · exact ⟨⟨none, rfl⟩, S1.trans s3.sameB, (B1.same s3).mono (by omega), upd_same, [], rfl, rfl, fun c hc => by simp at hc⟩
  · rintro i σ' ys H' hi ⟨_, _, _, h1, ts, rfl, h2, _⟩
    exact ⟨h1, by rw [List.length_map, h2]; exact small1000 (by omega)⟩
  · rintro i σ' ys H4 N hi ⟨⟨v, rfl⟩, S4, B4, h1, ts, rfl, h2, h3⟩ hN
    refine ⟨_, rfl, b, g, l, _, rfl, B4, by omega, fun x H5 ok B5 S5 => ?_⟩
    have h5 := S5 _ _ h1 pb pg
    refine ⟨h5, hN _ _ _ ⟨⟨_, rfl⟩, (S4.trans S5).off np, (B5.off pb pg pl).mono (by omega), upd_same, ts ++ [x], ?_, ?_, ?_⟩⟩
    · rw [List.map_append]; rfl
    · rw [List.length_append, h2]; rfl
    · intro c' hc'
      rcases List.mem_append.mp hc' with z | z
      · exact h3 c' z
      · rw [List.mem_singleton.mp z]; exact ok
  · rintro σ' ys H4 ⟨_, S4, B4, h1, ts, rfl, h2, h3⟩
    refine ⟨p, ts, rfl, SqL.of h1, by omega, fun z ms nd mem le so hz => ?_⟩
    obtain ⟨zb, zg, zl⟩ := B4.free hz
    have s5 := same_new hz (.lst (ms.map V.str))
    exact q z ms _ (S4.none hz zb zg) upd_same (sorted_lt so nd) (fun f hf => h3 f ((mem f).mp hf)) (by omega) ((B4.same s5).mono (by omega)) (S4.trans s5.sameB)

theorem sc_law_near : FnScope ["bag", "span", "choice", "end"] ["bag", "span"] (defScope s_law_near) := ⟨rfl, rfl, rfl, by decide +kernel, rfl, by decide +kernel, by decide +kernel⟩
theorem ok_law_near {f : Addr} {fd : FuncData} (F : Fun K "_law_near" "_law_near" s_law_near f fd) (B : Bl mg) {t_MOST_LETTERS : Tok} (C_MOST_LETTERS : mg "MOST_LETTERS" = some (.int 8 t_MOST_LETTERS)) (G_law_draw : FnH P w K mg base 1 "_law_draw" ["bag", "many"] (spDraw)) (G_law_held : FnH P w K mg base 1 "_law_held" ["number"] (spHeld)) (G_law_number : FnH P w K mg base 2 "_law_number" ["bag"] (spNumber)) : FnOk P w K mg base CX0 3 f fd ["bag", "span"] (spLawNear) := by
  refine F.ok sc_law_near (fun vs H Q E h => ?_) (fun cdv A outer s H vs Q E hr h => ?_)
  · obtain ⟨b, g, l, n, v, lo, hi, rfl, Bg, S0, hn, q⟩ := h
    rfl
  obtain ⟨b, g, l, n, v, lo, hi, rfl, Bg, S0, hn, q⟩ := h
  refine ⟨_, (pss_cons (ps_set (i := 2) sc_law_near.nd rfl (Or.inl rfl) (pe_fn G_law_draw (hr.mono (by decide)) rfl (pa_cons (pv 0) (pa_cons pe_int pa_nil))))
      (pss_cons (ps_set (i := 3) sc_law_near.nd rfl (Or.inl rfl) (pe_ix ix_tup (pv 1) (pe_fn G_law_draw (hr.mono (by decide)) rfl (pa_cons (pv 0) (pa_cons pe_int pa_nil))) (fun _ _ => rfl)))
      (pss_cons (ps_if (PW.pt (pw_or (pt_cmpR op_eq (pv 2) pe_int (nomark _)) (pw_or1 (pt_cmp (pc_isN (pv 3)))))) (pss_one (ps_ret (pe_fn G_law_number (hr.mono (by decide)) rfl (pa_cons (pv 0) pa_nil)))) pss_nil)
      (pss_one (ps_ret (pe_fn G_law_held (hr.mono (by decide)) rfl (pa_cons (pe_op op_sub (pe_op op_add (pv 3) (pv 2)) pe_int) pa_nil))))))), ?_⟩
  refine ⟨_, rfl, b, g, l, n, 6, rfl, Bg, by omega, by decide, by decide, fun c H1 c0 c1 B1 S1 => ?_⟩
  have SA1 := S0.sameB Bg S1
  obtain ⟨a, rfl, e1⟩ := SA1
  refine ⟨_, rfl, _, rfl, b, g, l, _, 2, rfl, B1, by omega, by decide, by decide, fun k H2 k0 k1 B2 S2 => ?_⟩
  have e2 := SameB.tup B1 S2 e1
  obtain ⟨o, ho⟩ : ∃ o, atI [eV lo, eV hi] k = some (eV o) := by
    have : k = 0 ∨ k = 1 := by omega
    rcases this with rfl | rfl
    · exact ⟨lo, rfl⟩
    · exact ⟨hi, rfl⟩
  refine ⟨a, _, k, _, rfl, rfl, SqT.of e2, ho, _, rfl, rfl, _, rfl, ite2 (fun _ => ?_) (fun _ => ?_)⟩
  · exact ⟨_, rfl, b, g, l, _, rfl, B2, by omega, fun r H3 _ _ B3 S3 => q r H3 (B3.mono (by omega)) ((S1.trans S2).trans S3)⟩
  · refine ⟨_, rfl, _, rfl, ?_⟩
    cases o with
    | none => exact iteT ⟨_, rfl, b, g, l, _, rfl, B2, by omega, fun r H3 _ _ B3 S3 => q r H3 (B3.mono (by omega)) ((S1.trans S2).trans S3)⟩
    | some e =>
      refine iteF ⟨_, rfl, _, rfl, _, _, rfl, rfl, _, _, rfl, rfl, _, rfl, q _ H2 (B2.mono (by omega)) (S1.trans S2)⟩

theorem sc_law_wants : FnScope ["wish", "piece", "field", "low", "high", "numbers"] ["wish", "piece"] (defScope s_law_wants) := ⟨rfl, rfl, rfl, by decide +kernel, rfl, by decide +kernel, by decide +kernel⟩
theorem ok_law_wants {f : Addr} {fd : FuncData} (F : Fun K "_law_wants" "_law_wants" s_law_wants f fd) (B : Bl mg) {t_MOST_LETTERS : Tok} (C_MOST_LETTERS : mg "MOST_LETTERS" = some (.int 8 t_MOST_LETTERS)) (G_law_in : FnH P w K mg base 1 "_law_in" ["span", "number"] (spIn)) : FnOk P w K mg base CX0 2 f fd ["wish", "piece"] (spTakes) := by
  refine F.ok sc_law_wants (fun vs H Q E h => ?_) (fun cdv A outer s H vs Q E hr h => ?_)
  · obtain ⟨a, b, w', p, rfl, hw, hp, pok, q⟩ := h
    rfl
  obtain ⟨a, b, w', p, rfl, hw, hp, pok, q⟩ := h
  refine ⟨_, (pss_cons (ps_for PassesOwn.never rfl (pi_tup (pv 0)) (pg_tup rfl (pgs_cons (pg_name (i := 2) sc_law_wants.nd rfl (Or.inr rfl)) (pgs_cons (pg_name (i := 3) sc_law_wants.nd rfl (Or.inl rfl)) (pgs_cons (pg_name (i := 4) sc_law_wants.nd rfl (Or.inl rfl)) pgs_nil)))) (pss_cons (ps_setLC (N' := ["name", "number", "field"]) (js := [none, none, some 2]) (i := 5) sc_law_wants.nd rfl (Or.inl rfl) rfl (capOk (N := ["wish", "piece", "field", "low", "high", "numbers"]) (outer := defScope s_law_wants) (by decide +kernel)) (pi_tup (pv 1)) (fun _ _ _ _ _ => (pg_tupK K rfl (n := 2) rfl (pgs_cons (pg_name (i := 0) (show List.Nodup (["name", "number", "field"] : List Str) by decide +kernel) rfl (Or.inl rfl)) (pgs_cons (pg_name (i := 1) (show List.Nodup (["name", "number", "field"] : List Str) by decide +kernel) rfl (Or.inl rfl)) pgs_nil)))) (fun _ _ _ _ _ => pifs_one (pt_cmpR op_eq (pv 0) (pv 2) (nomark _))) (fun _ _ _ _ _ => (pv 1)))
      (pss_one (ps_if (PW.pt (pw_or (pt_cmpR (op_eqD (roomD_of hr)) (pv 5) (pe_lst pa_nil) (nomark _)) (pw_or1 (pt_not (pt_val (pe_fn G_law_in (hr.mono (by decide)) rfl (pa_cons (pe_tup (pa_cons (pv 3) (pa_cons (pv 4) pa_nil))) (pa_cons (pe_ix ix_list (pv 5) pe_int (fun _ _ => rfl)) pa_nil)))))))) (pss_one (ps_ret pe_bl)) pss_nil))))
      (pss_one (ps_ret pe_bl))), ?_⟩
  obtain ⟨ps, rfl, hA, hP⟩ := hp
  have ll : ps.length ≤ 100 := by have := pok.len; rw [List.length_map] at this; exact this
  obtain ⟨ws, rfl, hB, hW⟩ := hw
  refine ⟨_, rfl, a, rfl, ⟨_, SqT.of hB⟩, for_tup (K := K) (a := a) (xs := ws.map fun p => V.ref p.1) (fun i σ H' => (∃ y2 y3 y4 y5, σ = [some (.ref a), some (.ref b), y2, y3, y4, y5]) ∧ Same H H' ∧ takesW ((ws.map (·.2)).take i) (ps.map (·.2)) = true) ⟨⟨none, none, none, none, rfl⟩, Same.refl _, rfl⟩ (fun i σ H' _ ⟨_, s, _⟩ => s.seqT (SqT.of hB)) ?_ ?_⟩
  · rintro i x σ H' hx ⟨⟨y2, y3, y4, y5, rfl⟩, s, hr'⟩
    rw [List.getElem?_map] at hx
    cases e1 : ws[i]? with
    | none => rw [e1] at hx; cases hx
    | some P1 =>
      rw [e1] at hx
      obtain rfl : V.ref P1.1 = x := Option.some.inj hx
      have hm := List.mem_of_getElem? e1
      have ew : (ws.map (·.2))[i]? = some P1.2 := by rw [List.getElem?_map, e1]; rfl
      refine ⟨P1.1, _, rfl, SqT.of (s _ _ (hW P1 hm)), rfl, _, _, rfl, _, _, rfl, _, _, rfl, rfl, ?_⟩
      have out : takesP (ps.map (·.2)) P1.2 = false → takesW (ws.map (·.2)) (ps.map (·.2)) = false := fun h => takesW_out (List.mem_map_of_mem hm) h
      refine ⟨_, rfl, b, rfl, ⟨_, SqT.of (s _ _ hA)⟩, fun l hl => ?_⟩
      refine lc_tup (xs := ps.map fun p => V.ref p.1) (fun j σ' ys H2 => (∃ v1 v2, σ' = [v1, v2, some (.str P1.2.1)]) ∧ Same H' H2 ∧ H2 l = some (.lst ys) ∧ ys.length ≤ j ∧ ys = (numIn ((ps.map (·.2)).take j) P1.2.1).toList.map V.int) ⟨⟨none, none, rfl⟩, same_new hl _, upd_same, Nat.le_refl _, rfl⟩ ?_ ?_ ?_
      · rintro j σ' ys H2 hj ⟨_, s2, h1, h2, _⟩
        rw [List.length_map] at hj
        exact ⟨(s.trans s2).seqT (SqT.of hA), h1, small1000 (by omega)⟩
      · rintro j y σ' ys H2 N hy ⟨⟨v1, v2, rfl⟩, s2, h1, h2, h3⟩ hN
        rw [List.getElem?_map] at hy
        cases e2 : ps[j]? with
        | none => rw [e2] at hy; cases hy
        | some P2 =>
          rw [e2] at hy
          obtain rfl : V.ref P2.1 = y := Option.some.inj hy
          have hm2 := List.mem_of_getElem? e2
          have ep : (ps.map (·.2))[j]? = some P2.2 := by rw [List.getElem?_map, e2]; rfl
          have fr := pok.fresh ep
          refine ⟨P2.1, _, rfl, SqT.of (s2 _ _ (s _ _ (hP P2 hm2))), rfl, _, _, rfl, _, _, rfl, rfl, ?_⟩
          have l1 : (numIn ((ps.map (·.2)).take j) P2.2.1) = none := fr
          refine ⟨_, rfl, _, rfl, rfl, _, rfl, ite2 (fun hx => ?_) (fun hx => ?_)⟩
          · have hx' : P1.2.1 = P2.2.1 := (V.str.inj (by simpa using hx)).symm
            have h0 : ys = [] := by rw [h3, hx', l1]; rfl
            refine ⟨_, rfl, h1, hN _ _ _ ⟨⟨_, _, rfl⟩, upd_off s2 hl, upd_same, ?_, ?_⟩⟩
            · rw [h0]; simp
            · rw [take_snoc ep, numIn_snoc _ _ _ fr, if_pos hx', h0]; rfl
          · have hx' : P1.2.1 ≠ P2.2.1 := fun z => hx (by rw [z]; simp)
            refine hN _ _ _ ⟨⟨_, _, rfl⟩, s2, h1, by omega, ?_⟩
            rw [take_snoc ep, numIn_snoc _ _ _ fr, if_neg hx', h3]
      · rintro σ' ys H2 ⟨_, s2, h1, h2, h3⟩
        have et : (ps.map (·.2)).take (ps.map fun p => V.ref p.1).length = ps.map (·.2) := List.take_of_length_le (by simp)
        rw [et] at h3
        subst h3
        refine ⟨_, rfl, sz0, fun z hz => ?_⟩
        have s3 := same_new hz (.lst [])
        refine eqNil (SqL.of (s3 _ _ h1)) (SqL.of upd_same) ⟨_, rfl, ?_⟩
        have t3 := s.trans (s2.trans s3)
        cases hs : numIn (ps.map (·.2)) P1.2.1 with
        | none =>
          refine iteT ?_
          have o1 := out (takesP_none hs)
          rw [o1] at q
          exact q _ t3
        | some m =>
          rw [hs] at h1
          refine iteF ⟨_, rfl, _, rfl, (by show 2 ≤ sizeLine; decide), fun u hu => ?_⟩
          have su := same_new hu (.tup [eV P1.2.2.1, eV P1.2.2.2])
          refine ⟨_, rfl, l, _, 0, _, rfl, rfl, SqL.of (su _ _ (s3 _ _ h1)), at0, .ref u, P1.2.2.1, P1.2.2.2, m, rfl, ⟨u, rfl, upd_same⟩, _, rfl, ?_⟩
          cases hb : inB P1.2.2.1 P1.2.2.2 m with
          | false =>
            refine iteT ?_
            have o1 := out ((takesP_some hs).trans hb)
            rw [o1] at q
            exact q _ (t3.trans su)
          | true =>
            refine iteF ⟨⟨_, _, _, _, rfl⟩, t3.trans su, ?_⟩
            rw [take_snoc ew]
            unfold takesW at *
            rw [List.all_append, hr', Bool.true_and, List.all_cons, List.all_nil, takesP_some hs, hb]
            rfl
  · rintro σ H' ⟨_, s, hr'⟩
    rw [show (ws.map (·.2)).take (ws.map fun p => V.ref p.1).length = ws.map (·.2) from List.take_of_length_le (by simp)] at hr'
    rw [hr'] at q
    exact q _ s

theorem sc_law_pair : FnScope ["bag", "fields", "often", "wish", "piece", "field", "span"] ["bag"] (defScope s_law_pair) := ⟨rfl, rfl, rfl, by decide +kernel, rfl, by decide +kernel, by decide +kernel⟩
theorem ok_law_pair {f : Addr} {fd : FuncData} (F : Fun K "_law_pair" "_law_pair" s_law_pair f fd) (B : Bl mg) {t_MOST_LETTERS : Tok} (C_MOST_LETTERS : mg "MOST_LETTERS" = some (.int 8 t_MOST_LETTERS)) (G_law_fields : FnH P w K mg base 3 "_law_fields" ["bag", "most"] (spLawFields)) (G_law_draw : FnH P w K mg base 1 "_law_draw" ["bag", "many"] (spDraw)) (G_law_span : FnH P w K mg base 3 "_law_span" ["bag"] (spSpan)) (G_law_near : FnH P w K mg base 3 "_law_near" ["bag", "span"] (spLawNear)) : FnOk P w K mg base CX0 4 f fd ["bag"] (spLawPair) := by
  refine F.ok sc_law_pair (fun vs H Q E h => ?_) (fun cdv A outer s H vs Q E hr h => ?_)
  · obtain ⟨b, g, l, n, rfl, Bg, hn, q⟩ := h
    rfl
  obtain ⟨b, g, l, n, rfl, Bg, hn, q⟩ := h
  refine ⟨_, (pss_cons (ps_set (i := 1) sc_law_pair.nd rfl (Or.inl rfl) (pe_fn G_law_fields (hr.mono (by decide)) rfl (pa_cons (pv 0) (pa_cons pe_int pa_nil))))
      (pss_cons (ps_set (i := 2) sc_law_pair.nd rfl (Or.inl rfl) (pe_ix ix_list (pe_lst (pa_cons pe_int (pa_cons pe_int (pa_cons pe_int pa_nil)))) (pe_fn G_law_draw (hr.mono (by decide)) rfl (pa_cons (pv 0) (pa_cons pe_int pa_nil))) (fun _ _ => rfl)))
      (pss_cons (ps_set (i := 3) sc_law_pair.nd rfl (Or.inl rfl) (pe_lst pa_nil))
      (pss_cons (ps_set (i := 4) sc_law_pair.nd rfl (Or.inl rfl) (pe_lst pa_nil))
      (pss_cons (ps_for PassesOwn.never rfl (pi_list (pv 1)) (pg_name (i := 5) sc_law_pair.nd rfl (Or.inl rfl)) (pss_cons (ps_set (i := 6) sc_law_pair.nd rfl (Or.inl rfl) (pe_fn G_law_span (hr.mono (by decide)) rfl (pa_cons (pv 0) pa_nil)))
      (pss_cons (ps_if (PW.pt (pw_and (pt_cmpR op_gt (pe_fn G_law_draw (hr.mono (by decide)) rfl (pa_cons (pv 0) (pa_cons pe_int pa_nil))) pe_int (nomark _)) (pw_and1 (pt_cmpR op_lt (pe_callB call_len_seq rfl B.len_ bt_len (pa_cons (pv 3) pa_nil)) pe_int (nomark _))))) (pss_one (ps_expr (pe_bm PySem.F.plainAttrs_list PySem.F.slot_list_append PySem.F.type_list_append mt_append (pv 3) (pa_cons (pe_tup (pa_cons (pv 5) (pa_cons (pe_ix ix_tup (pv 6) pe_int (fun _ _ => rfl)) (pa_cons (pe_ix ix_tup (pv 6) pe_int (fun _ _ => rfl)) pa_nil)))) pa_nil)))) pss_nil)
      (pss_one (ps_if (PW.pt (pw_and (pt_cmpR op_gt (pe_fn G_law_draw (hr.mono (by decide)) rfl (pa_cons (pv 0) (pa_cons (pe_op op_add (pv 2) pe_int) pa_nil))) pe_int (nomark _)) (pw_and1 (pt_cmpR op_lt (pe_callB call_len_seq rfl B.len_ bt_len (pa_cons (pv 4) pa_nil)) pe_int (nomark _))))) (pss_one (ps_expr (pe_bm PySem.F.plainAttrs_list PySem.F.slot_list_append PySem.F.type_list_append mt_append (pv 4) (pa_cons (pe_tup (pa_cons (pv 5) (pa_cons (pe_fn G_law_near (hr.mono (by decide)) rfl (pa_cons (pv 0) (pa_cons (pv 6) pa_nil))) pa_nil))) pa_nil)))) pss_nil)))))
      (pss_one (ps_ret (pe_tup (pa_cons (pe_callTy call_tuple_of rfl B.tuple_ bt_tuple (pa_cons (pv 3) pa_nil)) (pa_cons (pe_callTy call_tuple_of rfl B.tuple_ bt_tuple (pa_cons (pv 4) pa_nil)) pa_nil)))))))))), ?_⟩
  refine ⟨_, rfl, b, g, l, n, 9, rfl, Bg, by omega, by decide, by decide, fun fl fs H1 nf ef asc okf lf B1 S1 => ?_⟩
  obtain ⟨fb, fg, _⟩ := Bg.free nf
  have FA1 : FieldsAt H1 b g fl fs := ⟨ef, fb, fg, by omega, okf, asc⟩
  refine ⟨(by show 3 ≤ sizeLine; decide), fun p0 hp0 => ?_⟩
  have s2 := same_new hp0 (.lst [V.int 1, V.int 2, V.int 4])
  obtain ⟨p0b, p0g, _⟩ := B1.free hp0
  have e2 : (upd H1 p0 (.lst [V.int 1, V.int 2, V.int 4])) p0 = some (.lst [V.int 1, V.int 2, V.int 4]) := upd_same
  have B2 := B1.same s2
  have FA2 := FA1.sameB s2.sameB
  have S2 : SameB b g H (upd H1 p0 (.lst [V.int 1, V.int 2, V.int 4])) := S1.trans s2.sameB
  generalize upd H1 p0 (.lst [V.int 1, V.int 2, V.int 4]) = H2 at *
  refine ⟨_, rfl, b, g, l, _, 3, rfl, B2, by omega, by decide, by decide, fun k H3 k0 k1 B3 S3 => ?_⟩
  obtain ⟨o, ho, o1, o4⟩ : ∃ o, atI [V.int 1, V.int 2, V.int 4] k = some (.int o) ∧ 1 ≤ o ∧ o ≤ 4 := by
    have : k = 0 ∨ k = 1 ∨ k = 2 := by omega
    rcases this with rfl | rfl | rfl
    · exact ⟨1, rfl, by decide, by decide⟩
    · exact ⟨2, rfl, by decide, by decide⟩
    · exact ⟨4, rfl, by decide, by decide⟩
  refine ⟨p0, _, _, _, rfl, rfl, SqL.of (S3 p0 _ e2 p0b p0g), ho, ?_⟩
  have FA3 := FA2.sameB S3
  have S03 := S2.trans S3
  refine ⟨sz0, fun wl hwl => ?_⟩
  obtain ⟨wb, wg, wl'⟩ := B3.free hwl
  have nw : H wl = none := S03.none hwl wb wg
  have s4 := same_new hwl (.lst [])
  have ew : (upd H3 wl (.lst [])) wl = some (.lst []) := upd_same
  have FA4 := FA3.sameB s4.sameB
  have B4 := B3.same s4
  have S04 := S03.trans s4.sameB
  have wf : wl ≠ fl := fun e => by rw [e, FA3.at'] at hwl; cases hwl
  generalize upd H3 wl (.lst []) = H4 at *
  refine ⟨sz0, fun pl hpl => ?_⟩
  obtain ⟨pb, pg, pl'⟩ := B4.free hpl
  have np : H pl = none := S04.none hpl pb pg
  have s5 := same_new hpl (.lst [])
  have ep : (upd H4 pl (.lst [])) pl = some (.lst []) := upd_same
  have ew5 := s5 _ _ ew
  have FA5 := FA4.sameB s5.sameB
  have B5 := B4.same s5
  have S05 := S04.trans s5.sameB
  have pf : pl ≠ fl := fun e => by rw [e, FA4.at'] at hpl; cases hpl
  have wp : wl ≠ pl := fun e => by rw [e] at ew; rw [hpl] at ew; cases ew
  generalize upd H4 pl (.lst []) = H5 at *
  refine ⟨_, rfl, fl, rfl, ⟨_, SqL.of FA5.at'⟩, for_list (K := K) (a := fl) (xs := fs.map V.str) (fun i σ H' => (∃ y5 y6, σ = [some (.ref b), some (.ref fl), some (.int o), some (.ref wl), some (.ref pl), y5, y6]) ∧ SameB b g H H' ∧ Bag H' b g l (n + 210 + 30 * i) ∧ FieldsAt H' b g fl fs ∧
      (∃ qs : List (Addr × WP), H' wl = some (.lst (qs.map fun q => V.ref q.1)) ∧ (∀ q ∈ qs, H' q.1 = some (.tup [.str q.2.1, eV q.2.2.1, eV q.2.2.2]) ∧ Good q.2.2.1 q.2.2.2) ∧ (qs.map (·.2.1)).Sublist (fs.take i)) ∧
      ∃ rs : List (Addr × PP), H' pl = some (.lst (rs.map fun q => V.ref q.1)) ∧ (∀ q ∈ rs, H' q.1 = some (.tup [.str q.2.1, .int q.2.2])) ∧ (rs.map (·.2.1)).Sublist (fs.take i) ∧ rs.length ≤ 8) ?_ ?_ ?_ ?_⟩
  · exact ⟨⟨none, none, rfl⟩, S05, B5.mono (by omega), FA5, ⟨[], ew5, fun q hq => by simp at hq, by simp⟩, [], ep, fun q hq => by simp at hq, by simp, by simp⟩
  · rintro i σ H' _ ⟨_, _, _, F1, _⟩
    exact SqL.of F1.at'
  · rintro i x σ H1' hx ⟨⟨y5, y6, rfl⟩, S1', B1', F1', ⟨qs, e1, a1, u1⟩, rs, k1', c1, v1, r8⟩
    rw [List.getElem?_map] at hx
    cases eF : fs[i]? with
    | none => rw [eF] at hx; cases hx
    | some f' =>
      rw [eF] at hx
      obtain rfl : V.str f' = x := Option.some.inj hx
      have li : i < 9 := by have := (List.getElem?_eq_some_iff.mp eF).1; have := FA1.len; omega
      have tk : fs.take (i + 1) = fs.take i ++ [f'] := take_snoc eF
      refine ⟨_, rfl, b, g, l, _, rfl, B1', by omega, fun v lo hi H6 sp G6 B6 S6 => ?_⟩
      obtain ⟨sa, rfl, es⟩ := sp
      have S06 := S1'.trans S6
      have F6 := F1'.sameB S6
      have e6 := S6 _ _ e1 wb wg
      have k6 := S6 _ _ k1' pb pg
      have a6 : ∀ q ∈ qs, H6 q.1 = some (.tup [.str q.2.1, eV q.2.2.1, eV q.2.2.2]) ∧ Good q.2.2.1 q.2.2.2 := fun q hq => ⟨S6.tup B1' (a1 q hq).1, (a1 q hq).2⟩
      have c6 : ∀ q ∈ rs, H6 q.1 = some (.tup [.str q.2.1, .int q.2.2]) := fun q hq => S6.tup B1' (c1 q hq)
      refine name_then ?_
      dsimp only
      refine seq_join (fun σ' H' => σ' = [some (.ref b), some (.ref fl), some (.int o), some (.ref wl), some (.ref pl), some (.str f'), some (.ref sa)] ∧ SameB b g H H' ∧ Bag H' b g l (n + 210 + 30 * i + 10) ∧ FieldsAt H' b g fl fs ∧ H' sa = some (.tup [eV lo, eV hi]) ∧
        (∃ qs : List (Addr × WP), H' wl = some (.lst (qs.map fun q => V.ref q.1)) ∧ (∀ q ∈ qs, H' q.1 = some (.tup [.str q.2.1, eV q.2.2.1, eV q.2.2.2]) ∧ Good q.2.2.1 q.2.2.2) ∧ (qs.map (·.2.1)).Sublist (fs.take (i + 1))) ∧
        ∃ rs : List (Addr × PP), H' pl = some (.lst (rs.map fun q => V.ref q.1)) ∧ (∀ q ∈ rs, H' q.1 = some (.tup [.str q.2.1, .int q.2.2])) ∧ (rs.map (·.2.1)).Sublist (fs.take i) ∧ rs.length ≤ 8) (fun Z hZ => ?_) ?_
      · refine ⟨_, rfl, b, g, l, _, 3, rfl, B6, by omega, by decide, by decide, fun c H7 c0 c1' B7 S7 => ?_⟩
        have S07 := S06.trans S7
        have F7 := F6.sameB S7
        have e7 := S7 _ _ e6 wb wg
        have k7 := S7 _ _ k6 pb pg
        have a7 : ∀ q ∈ qs, H7 q.1 = some (.tup [.str q.2.1, eV q.2.2.1, eV q.2.2.2]) ∧ Good q.2.2.1 q.2.2.2 := fun q hq => ⟨S7.tup B6 (a6 q hq).1, (a6 q hq).2⟩
        have c7 : ∀ q ∈ rs, H7 q.1 = some (.tup [.str q.2.1, .int q.2.2]) := fun q hq => S7.tup B6 (c6 q hq)
        have es7 := S7.tup B6 es
        have u2 : (qs.map (·.2.1)).Sublist (fs.take (i + 1)) := u1.trans (List.take_sublist_take_left (by omega))
        have out := hZ _ _ ⟨rfl, S07, B7.mono (by omega), F7, es7, ⟨qs, e7, a7, u2⟩, rs, k7, c7, v1, r8⟩
        refine ⟨_, _, rfl, rfl, _, rfl, ite2 (fun _ => ?_) (fun _ => iteF out)⟩
        refine ⟨_, rfl, wl, _, rfl, .inl (SqL.of e7), _, _, rfl, rfl, _, rfl, ite2 (fun _ => ?_) (fun _ => out)⟩
        refine ⟨_, rfl, .inl ⟨rfl, _, SqL.of e7⟩, _, rfl, _, rfl, sa, _, 0, _, rfl, rfl, SqT.of es7, rfl, _, rfl, sa, _, 1, _, rfl, rfl, SqT.of es7, rfl, (by show 3 ≤ sizeLine; decide), fun t ht => ?_⟩
        have st := same_new ht (.tup [V.str f', eV lo, eV hi])
        have e8 := st _ _ e7
        refine ⟨wl, _, _, rfl, rfl, e8, (by rw [List.length_map]; have := u1.length_le; simp at this; exact small1000 (by omega)), ?_⟩
        have tl := tups_lst (o := .lst (qs.map (fun q => V.ref q.1) ++ [V.ref t])) e8
        refine hZ _ _ ⟨rfl, (S07.trans st.sameB).off nw, ((B7.same st).off wb wg wl').mono (by omega), ?_, tl _ _ (st _ _ es7), ⟨qs ++ [(t, f', lo, hi)], ?_, ?_, ?_⟩, rs, ?_, fun q hq => tl _ _ (st _ _ (c7 q hq)), v1, r8⟩
        · have F8 := F7.sameB st.sameB
          exact ⟨by rw [upd_ne wf.symm]; exact F8.at', F8.nb, F8.ng, F8.len, F8.ok, F8.asc⟩
        · rw [upd_same, List.map_append]; rfl
        · intro q hq
          rcases List.mem_append.mp hq with z | z
          · exact ⟨tl _ _ (st _ _ (a7 q z).1), (a7 q z).2⟩
          · rw [List.mem_singleton.mp z]
            exact ⟨tl _ _ upd_same, G6⟩
        · rw [List.map_append, tk]
          exact u1.append (List.Sublist.refl _)
        · rw [upd_ne wp.symm]; exact st _ _ k7
      · rintro σ' H7 ⟨rfl, S07, B7, F7, es7, ⟨qs2, e7, a7, u7⟩, rs2, k7, c7, v7, r7⟩
        have big : o + 1 < 2 ^ 500 := by
          have : (10 : Int) < 2 ^ 500 := by decide
          omega
        refine ⟨_, rfl, _, rfl, _, _, rfl, rfl, b, g, l, _, _, rfl, B7, by omega, by omega, big, fun c H8 c0 c1' B8 S8 => ?_⟩
        have S08 := S07.trans S8
        have F8 := F7.sameB S8
        have e8 := S8 _ _ e7 wb wg
        have k8 := S8 _ _ k7 pb pg
        have a8 : ∀ q ∈ qs2, H8 q.1 = some (.tup [.str q.2.1, eV q.2.2.1, eV q.2.2.2]) ∧ Good q.2.2.1 q.2.2.2 := fun q hq => ⟨S8.tup B7 (a7 q hq).1, (a7 q hq).2⟩
        have c8 : ∀ q ∈ rs2, H8 q.1 = some (.tup [.str q.2.1, .int q.2.2]) := fun q hq => S8.tup B7 (c7 q hq)
        have es8 := S8.tup B7 es7
        have v8 : (rs2.map (·.2.1)).Sublist (fs.take (i + 1)) := v7.trans (List.take_sublist_take_left (by omega))
        refine ⟨_, _, rfl, rfl, _, rfl, ite2 (fun _ => ?_) (fun _ => iteF ⟨⟨_, _, rfl⟩, S08, B8.mono (by omega), F8, ⟨qs2, e8, a8, u7⟩, rs2, k8, c8, v8, r7⟩)⟩
        refine ⟨_, rfl, pl, _, rfl, .inl (SqL.of k8), _, _, rfl, rfl, _, rfl, ite2 (fun h8 => ?_) (fun _ => ⟨⟨_, _, rfl⟩, S08, B8.mono (by omega), F8, ⟨qs2, e8, a8, u7⟩, rs2, k8, c8, v8, r7⟩)⟩
        have r8' : rs2.length < 8 := by
          have := of_decide_eq_true h8
          rw [List.length_map] at this
          omega
        refine ⟨_, rfl, .inl ⟨rfl, _, SqL.of k8⟩, _, rfl, _, rfl, _, rfl, b, g, l, _, .ref sa, lo, hi, rfl, B8, ⟨sa, rfl, es8⟩, by omega, fun m H9 B9 S9 => ?_⟩
        refine ⟨(by show 2 ≤ sizeLine; decide), fun t ht => ?_⟩
        have st := same_new ht (.tup [V.str f', V.int m])
        have k9 := st _ _ (S9 _ _ k8 pb pg)
        refine ⟨pl, _, _, rfl, rfl, k9, (by rw [List.length_map]; exact small1000 (by omega)), ?_⟩
        have tl := tups_lst (o := .lst (rs2.map (fun q => V.ref q.1) ++ [V.ref t])) k9
        refine ⟨⟨_, _, rfl⟩, ((S08.trans S9).trans st.sameB).off np, ((B9.same st).off pb pg pl').mono (by omega), ?_, ⟨qs2, ?_, ?_, u7⟩, rs2 ++ [(t, f', m)], ?_, ?_, ?_, ?_⟩
        · have F9 := (F8.sameB S9).sameB st.sameB
          exact ⟨by rw [upd_ne pf.symm]; exact F9.at', F9.nb, F9.ng, F9.len, F9.ok, F9.asc⟩
        · rw [upd_ne wp]; exact st _ _ (S9 _ _ e8 wb wg)
        · exact fun q hq => ⟨tl _ _ (st _ _ (S9.tup B8 (a8 q hq).1)), (a8 q hq).2⟩
        · rw [upd_same, List.map_append]; rfl
        · intro q hq
          rcases List.mem_append.mp hq with z | z
          · exact tl _ _ (st _ _ (S9.tup B8 (c8 q z)))
          · rw [List.mem_singleton.mp z]
            exact tl _ _ upd_same
        · rw [List.map_append, tk]
          exact v7.append (List.Sublist.refl _)
        · rw [List.length_append, List.length_singleton]; omega
  · rintro σ H6 ⟨⟨y5, y6, rfl⟩, S6, B6, F6, ⟨qs, e1, a1, u1⟩, rs, k1', c1, v1, r8⟩
    rw [show fs.take (fs.map V.str).length = fs from List.take_of_length_le (by simp)] at u1 v1
    refine ⟨_, rfl, wl, _, rfl, .inl ⟨SqL.of e1, fun wa hwa => ?_⟩⟩
    have sw := same_new hwa (.tup (qs.map fun q => V.ref q.1))
    have ewa : (upd H6 wa (.tup (qs.map fun q => V.ref q.1))) wa = some (.tup (qs.map fun q => V.ref q.1)) := upd_same
    have k2 := sw _ _ k1'
    generalize upd H6 wa (.tup (qs.map fun q => V.ref q.1)) = H7 at *
    refine ⟨_, rfl, pl, _, rfl, .inl ⟨SqL.of k2, fun pa hpa => ?_⟩⟩
    have sp := same_new hpa (.tup (rs.map fun q => V.ref q.1))
    have epa : (upd H7 pa (.tup (rs.map fun q => V.ref q.1))) pa = some (.tup (rs.map fun q => V.ref q.1)) := upd_same
    have ewa2 := sp _ _ ewa
    generalize upd H7 pa (.tup (rs.map fun q => V.ref q.1)) = H8 at *
    refine ⟨(by show 2 ≤ sizeLine; decide), fun r hr' => ?_⟩
    have s9 := same_new hr' (.tup [V.ref wa, V.ref pa])
    have tt := sw.trans (sp.trans s9)
    have lq := u1.length_le
    have lr := v1.length_le
    rw [List.length_map] at lq lr
    have lf9 := FA1.len
    refine q r wa pa (qs.map (·.2)) (rs.map (·.2)) _ upd_same ⟨qs, rfl, s9 _ _ ewa2, fun q hq => tt _ _ (a1 q hq).1⟩ ⟨by rw [List.length_map]; omega, ?_, ?_⟩ ⟨rs, rfl, s9 _ _ epa, fun q hq => tt _ _ (c1 q hq)⟩ ⟨by rw [List.length_map]; exact r8, ?_, ?_⟩ ((B6.same tt).mono (by rw [List.length_map]; omega)) (S6.trans tt.sameB)
    · intro p hp
      obtain ⟨q, hq, rfl⟩ := List.mem_map.mp hp
      exact ⟨okf _ (u1.subset (List.mem_map_of_mem hq)), (a1 q hq).2⟩
    · rw [List.map_map]; exact asc.sublist u1
    · intro p hp
      obtain ⟨q, hq, rfl⟩ := List.mem_map.mp hp
      exact okf _ (v1.subset (List.mem_map_of_mem (f := fun (q : Addr × PP) => q.2.1) hq))
    · rw [List.map_map]; exact asc.sublist v1

theorem sc_law_met : FnScope ["bag", "wish", "piece", "numbers", "field", "number", "low", "high", "end"] ["bag", "wish", "piece"] (defScope s_law_met) := ⟨rfl, rfl, rfl, by decide +kernel, rfl, by decide +kernel, by decide +kernel⟩
theorem ok_law_met {f : Addr} {fd : FuncData} (F : Fun K "_law_met" "_law_met" s_law_met f fd) (B : Bl mg) {t_MOST_LETTERS : Tok} (C_MOST_LETTERS : mg "MOST_LETTERS" = some (.int 8 t_MOST_LETTERS)) (G_law_draw : FnH P w K mg base 1 "_law_draw" ["bag", "many"] (spDraw)) : FnOk P w K mg base CX0 2 f fd ["bag", "wish", "piece"] (spLawMet) := by
  refine F.ok sc_law_met (fun vs H Q E h => ?_) (fun cdv A outer s H vs Q E hr h => ?_)
  · obtain ⟨b, g, l, n, wa, pa, w', p, rfl, Bg, hn, hw, wd, hp, pd, q⟩ := h
    rfl
  obtain ⟨b, g, l, n, wa, pa, w', p, rfl, Bg, hn, hw, wd, hp, pd, q⟩ := h
  refine ⟨_, (pss_cons (ps_set (i := 3) sc_law_met.nd rfl (Or.inr rfl) pe_dnewK)
      (pss_cons (ps_for PassesOwn.never rfl (pi_tup (pv 2)) (pg_tup rfl (pgs_cons (pg_name (i := 4) sc_law_met.nd rfl (Or.inl rfl)) (pgs_cons (pg_name (i := 5) sc_law_met.nd rfl (Or.inl rfl)) pgs_nil))) (pss_one (ps_dput (hu_of hr) (pv 3) (pv 4) (pv 5) rfl)))
      (pss_cons (ps_for PassesOwn.never rfl (pi_tup (pv 1)) (pg_tup rfl (pgs_cons (pg_name (i := 4) sc_law_met.nd rfl (Or.inl rfl)) (pgs_cons (pg_name (i := 6) sc_law_met.nd rfl (Or.inl rfl)) (pgs_cons (pg_name (i := 7) sc_law_met.nd rfl (Or.inl rfl)) pgs_nil)))) (pss_cons (ps_set (i := 8) sc_law_met.nd rfl (Or.inl rfl) (pe_ifExp (PW.pt (pw_or (pt_cmp (pc_isN (pv 7))) (pw_or1 (PW.pt (pw_and (pt_cmp (pc_notN (pv 6))) (pw_and1 (pt_cmpR op_eq (pe_fn G_law_draw (hr.mono (by decide)) rfl (pa_cons (pv 0) (pa_cons pe_int pa_nil))) pe_int (nomark _)))))))) (pv 6) (pv 7)))
      (pss_one (ps_dput (hu_of hr) (pv 3) (pv 4) (pe_ifExp (pt_cmp (pc_isN (pv 8))) (pe_dget2 (hu_of hr) (pv 3) (pv 4) pe_int ⟨rfl, rfl, rfl, rfl⟩) (pv 8)) rfl))))
      (pss_one (ps_ret (pe_callTy call_tuple_of rfl B.tuple_ bt_tuple (pa_cons (pe_slice sl_list (pe_lc (N' := ["field", "numbers"]) (js := [none, some 3]) rfl (capOk (N := ["bag", "wish", "piece", "numbers", "field", "number", "low", "high", "end"]) (outer := defScope s_law_met) (by decide +kernel)) (pi_list (pe_callB (call_sortedD rfl) rfl B.sorted_ bt_sorted (pa_cons (pv 3) pa_nil))) (fun _ _ _ _ _ => (pg_name (i := 0) (show List.Nodup (["field", "numbers"] : List Str) by decide +kernel) rfl (Or.inl rfl))) (fun _ _ _ _ _ => pifs_nil) (fun _ _ _ _ _ => (pe_tup (pa_cons (pv 0) (pa_cons (pe_dget (hu_of hr) (pv 1) (pv 0) (fun _ _ => rfl)) pa_nil))))) po_none (po_some pe_int)) pa_nil))))))), ?_⟩
  intro d hd
  obtain ⟨db, dg, dl⟩ := Bg.free hd
  have s0 := same_new hd (.dK [])
  have e0 : (upd H d (.dK [])) d = some (.dK (kvP [])) := upd_same
  have B0 := Bg.same s0
  generalize upd H d (.dK []) = H0 at *
  obtain ⟨ps, rfl, hA, hP⟩ := hp
  have l8 : ps.length ≤ 8 := by have := pd.len; rw [List.length_map] at this; exact this
  refine ⟨_, rfl, pa, rfl, ⟨_, SqT.of (s0 _ _ hA)⟩, for_tup (K := K) (a := pa) (xs := ps.map fun (p : Addr × PP) => V.ref p.1) (fun i σ H' => (∃ y4 y5, σ = [some (.ref b), some (.ref wa), some (.ref pa), some (.ref d), y4, y5, none, none, none]) ∧ Same H H' ∧ Bag H' b g l n ∧ ∃ bs : List PP, H' d = some (.dK (kvP bs)) ∧ bs.length ≤ i ∧ NumsOk bs) ⟨⟨none, none, rfl⟩, s0, B0, [], e0, Nat.le_refl _, NumsOk.nil⟩ (fun i σ H' _ ⟨_, s, _⟩ => SqT.of (s _ _ hA)) ?_ ?_⟩
  · rintro i x σ H1 hx ⟨⟨y4, y5, rfl⟩, s1, B1, bs, k1, k2, k3⟩
    rw [List.getElem?_map] at hx
    cases ep : ps[i]? with
    | none => rw [ep] at hx; cases hx
    | some P1 =>
      rw [ep] at hx
      obtain rfl : V.ref P1.1 = x := Option.some.inj hx
      have hm := List.mem_of_getElem? ep
      have li := (List.getElem?_eq_some_iff.mp ep).1
      refine ⟨P1.1, _, rfl, SqT.of (s1 _ _ (hP P1 hm)), rfl, _, _, rfl, _, _, rfl, rfl, ?_⟩
      refine ⟨_, rfl, _, rfl, _, rfl, d, _, rfl, DPut.k (k := Sum.inr P1.2.1) k1 (small1000 (by unfold kvP; rw [List.length_map]; omega)), ⟨_, _, rfl⟩, upd_off s1 hd, B1.off db dg dl, putP bs P1.2.1 P1.2.2, ?_, ?_, k3.put (pd.ok _ (List.mem_map_of_mem hm)) _⟩
      · rw [upd_same, putK_kvP]
      · have := putP_len bs P1.2.1 P1.2.2
        omega
  · rintro σ H1 ⟨⟨y4, y5, rfl⟩, s1, B1, bs, k1, k2, k3⟩
    rw [List.length_map] at k2
    obtain ⟨ws, rfl, hB, hW⟩ := hw
    have l9 : ws.length ≤ 9 := by have := wd.len; rw [List.length_map] at this; exact this
    refine ⟨_, rfl, wa, rfl, ⟨_, SqT.of (s1 _ _ hB)⟩, for_tup (K := K) (a := wa) (xs := ws.map fun (p : Addr × WP) => V.ref p.1) (fun i σ H' => (∃ y4 y6 y7 y8, σ = [some (.ref b), some (.ref wa), some (.ref pa), some (.ref d), y4, y5, y6, y7, y8]) ∧ SameB b g H H' ∧ Bag H' b g l (n + i) ∧ ∃ bs : List PP, H' d = some (.dK (kvP bs)) ∧ bs.length ≤ 8 + i ∧ NumsOk bs) ⟨⟨_, _, _, _, rfl⟩, s1.sameB, B1.mono (by omega), bs, k1, by omega, k3⟩ (fun i σ H' _ ⟨_, s, _⟩ => SqT.of (s.tup Bg hB)) ?_ ?_⟩
    · rintro i x σ H2 hx ⟨⟨y4, y6, y7, y8, rfl⟩, S2, B2, bs2, m1, m2, m3⟩
      rw [List.getElem?_map] at hx
      cases ep : ws[i]? with
      | none => rw [ep] at hx; cases hx
      | some P1 =>
        rw [ep] at hx
        obtain rfl : V.ref P1.1 = x := Option.some.inj hx
        have hm := List.mem_of_getElem? ep
        have li := (List.getElem?_eq_some_iff.mp ep).1
        have fok := (wd.ok P1.2 (List.mem_map_of_mem hm)).1
        refine ⟨P1.1, _, rfl, SqT.of (S2.tup Bg (hW P1 hm)), rfl, _, _, rfl, _, _, rfl, _, _, rfl, rfl, ?_⟩
        refine seq_join (fun σ' H' => ∃ e : Option Int, σ' = [some (.ref b), some (.ref wa), some (.ref pa), some (.ref d), some (.str P1.2.1), y5, some (eV P1.2.2.1), some (eV P1.2.2.2), some (eV e)] ∧ SameB b g H H' ∧ Bag H' b g l (n + i + 1) ∧ H' d = some (.dK (kvP bs2))) (fun Z hZ => ?_) ?_
        · refine ⟨_, rfl, _, rfl, ?_⟩
          cases eh : P1.2.2.2 with
          | none => exact iteT (iteT ⟨_, rfl, hZ _ _ ⟨P1.2.2.1, by rw [eh]; rfl, S2, B2.mono (by omega), m1⟩⟩)
          | some h =>
            refine iteF ⟨_, rfl, _, rfl, ?_⟩
            cases el : P1.2.2.1 with
            | none => exact iteF (iteF ⟨_, rfl, hZ _ _ ⟨some h, by rw [eh, el]; rfl, S2, B2.mono (by omega), m1⟩⟩)
            | some lw =>
              refine iteT ⟨_, rfl, b, g, l, _, 2, rfl, B2, by omega, by decide, by decide, fun c H3 c0 c1 B3 S3 => ?_⟩
              have m3' := S3 _ _ m1 db dg
              refine ⟨rfl, _, rfl, ite2 (fun _ => ⟨_, rfl, hZ _ _ ⟨some lw, by rw [eh, el]; rfl, S2.trans S3, B3.mono (by omega), m3'⟩⟩) (fun _ => ⟨_, rfl, hZ _ _ ⟨some h, by rw [eh, el]; rfl, S2.trans S3, B3.mono (by omega), m3'⟩⟩)⟩
        · rintro σ' H3 ⟨e, rfl, S3, B3, m1'⟩
          have ends : ∀ v : Int, SameB b g H (upd H3 d (.dK (putK (kvP bs2) (Sum.inr P1.2.1 : Key) (V.int v)))) ∧ Bag (upd H3 d (.dK (putK (kvP bs2) (Sum.inr P1.2.1 : Key) (V.int v)))) b g l (n + ((i + 1 : Nat) : Int)) ∧
              ∃ bs : List PP, (upd H3 d (.dK (putK (kvP bs2) (Sum.inr P1.2.1 : Key) (V.int v)))) d = some (.dK (kvP bs)) ∧ bs.length ≤ 8 + (i + 1) ∧ NumsOk bs := fun v =>
            ⟨S3.off hd, (B3.off db dg dl).mono (by omega), putP bs2 P1.2.1 v, by rw [upd_same, putK_kvP], by have := putP_len bs2 P1.2.1 v; omega, m3.put fok v⟩
          have lk : (kvP bs2).length < sizeLine := small1000 (by unfold kvP; rw [List.length_map]; omega)
          refine ⟨_, rfl, _, rfl, ?_⟩
          cases e with
          | none =>
            obtain ⟨v, hv⟩ : ∃ v : Int, (valV (kvP bs2) (.inr P1.2.1 : Key)).getD (.int 7) = .int v := by
              rw [valV_kvP]
              cases numIn bs2 P1.2.1 with
              | none => exact ⟨7, rfl⟩
              | some v => exact ⟨v, rfl⟩
            refine iteT ⟨_, rfl, d, rfl, .inl ⟨_, .inl m1'⟩, _, rfl, _, DGet.k (k := Sum.inr P1.2.1) m1', ?_⟩
            rw [hv]
            exact ⟨_, rfl, _, rfl, d, _, rfl, DPut.k (k := Sum.inr P1.2.1) m1' lk, ⟨_, _, _, _, rfl⟩, ends v⟩
          | some v => exact iteF ⟨_, rfl, _, rfl, _, rfl, d, _, rfl, DPut.k (k := Sum.inr P1.2.1) m1' lk, ⟨_, _, _, _, rfl⟩, ends v⟩
    · rintro σ H2 ⟨⟨y4', y6, y7, y8, rfl⟩, S2, B2, bs2, m1, m2, m3⟩
      rw [List.length_map] at m2 B2
      refine ⟨_, rfl, d, kvP bs2, bs2.map (·.1), rfl, m1, kvP_keys bs2, (by rw [List.length_map]; omega), fun z ms mp mn mso hz => ?_⟩
      have sz := same_new hz (.lst (ms.map V.str))
      have lm : ms.length ≤ 17 := by rw [mp.length_eq, List.length_map]; omega
      have masc := sorted_lt mso mn
      obtain ⟨base, hbase⟩ : ∃ base : List PP, base = ms.map fun f => (f, (numIn bs2 f).getD 0) := ⟨_, rfl⟩
      have bk : base.map (·.1) = ms := by rw [hbase, List.map_map]; exact List.map_id' _
      refine ⟨z, rfl, ⟨_, SqL.of upd_same⟩, fun p hp => ?_⟩
      refine lc_piece (cap := [some (.ref d)]) base (by rw [hbase, List.length_map]; omega) (SqL.of (by rw [upd_same, bk])) hp rfl ?_ ?_
      · intro x hx H' R s' hR
        have kd := s' _ _ (sz _ _ m1)
        have gd : DGet H' d (.str x.1) (some (.int x.2)) := by
          have := DGet.k (k := Sum.inr x.1) kd
          rw [hbase] at hx
          obtain ⟨f, hf, rfl⟩ := List.mem_map.mp hx
          rw [valV_kvP] at this
          have hin : f ∈ bs2.map (·.1) := mp.mem_iff.mp hf
          obtain ⟨v, hv⟩ : ∃ v, numIn bs2 f = some v := by
            obtain ⟨y, hy, rfl⟩ := List.mem_map.mp hin
            cases hn' : numIn bs2 y.1 with
            | some v => exact ⟨v, rfl⟩
            | none =>
              unfold numIn at hn'
              rw [Option.map_eq_none_iff, List.find?_eq_none] at hn'
              exact absurd (decide_eq_true rfl) (hn' y hy)
          show DGet H' d (.str f) (some (.int ((numIn bs2 f).getD 0)))
          rw [hv] at this ⊢
          exact this
        exact ⟨_, rfl, _, rfl, _, rfl, d, _, rfl, gd, (by show 2 ≤ sizeLine; decide), hR⟩
      intro H3 qs s3 q1 q2 q3
      have ct : cutV (qs.map fun q => V.ref q.1) none (some 8) = (qs.take 8).map fun q => V.ref q.1 := by
        rw [List.map_take]
        exact cutV_take (n := 8) rfl
      refine ⟨_, rfl, p, _, rfl, SqL.of q2, fun sl hsl => ?_⟩
      have s4 := same_new hsl (.lst (cutV (qs.map fun q => V.ref q.1) none (some 8)))
      refine ⟨sl, _, rfl, .inl ⟨SqL.of upd_same, fun t ht => ?_⟩⟩
      have s5 := same_new ht (.tup (cutV (qs.map fun q => V.ref q.1) none (some 8)))
      have tt := sz.trans (s3.trans (s4.trans s5))
      refine q t ((qs.take 8).map (·.2)) _ ⟨qs.take 8, rfl, by rw [upd_same, ct], fun q hq => (s4.trans s5) _ _ (q3 q (List.mem_of_mem_take hq))⟩ ⟨by rw [List.length_map, List.length_take]; omega, ?_, ?_⟩ ((B2.same tt).mono (by omega)) (S2.trans tt.sameB)
      · intro x hx
        rw [List.map_take, q1] at hx
        have hx := List.mem_of_mem_take hx
        rw [hbase] at hx
        obtain ⟨f, hf, rfl⟩ := List.mem_map.mp hx
        obtain ⟨y, hy, rfl⟩ := List.mem_map.mp (mp.mem_iff.mp hf)
        exact m3.ok y hy
      · rw [List.map_take, q1, List.map_take, bk]
        exact masc.sublist (List.take_sublist _ _)

theorem sc_law_other_piece : FnScope ["bag", "piece", "choice", "at", "step", "field", "rest"] ["bag", "piece"] (defScope s_law_other_piece) := ⟨rfl, rfl, rfl, by decide +kernel, rfl, by decide +kernel, by decide +kernel⟩
theorem ok_law_other_piece {f : Addr} {fd : FuncData} (F : Fun K "_law_other_piece" "_law_other_piece" s_law_other_piece f fd) (B : Bl mg) {t_MOST_LETTERS : Tok} (C_MOST_LETTERS : mg "MOST_LETTERS" = some (.int 8 t_MOST_LETTERS)) (G_law_draw : FnH P w K mg base 1 "_law_draw" ["bag", "many"] (spDraw)) (G_law_field : FnH P w K mg base 2 "_law_field" ["bag"] (spLawField)) (G_law_held : FnH P w K mg base 1 "_law_held" ["number"] (spHeld)) : FnOk P w K mg base CX0 3 f fd ["bag", "piece"] (spOtherPiece) := by
  refine F.ok sc_law_other_piece (fun vs H Q E h => ?_) (fun cdv A outer s H vs Q E hr h => ?_)
  · obtain ⟨b, g, l, n, pa, p, rfl, Bg, hn, hp, pd, q⟩ := h
    rfl
  obtain ⟨b, g, l, n, pa, p, rfl, Bg, hn, hp, pd, q⟩ := h
  refine ⟨_, (pss_cons (ps_set (i := 2) sc_law_other_piece.nd rfl (Or.inl rfl) (pe_fn G_law_draw (hr.mono (by decide)) rfl (pa_cons (pv 0) (pa_cons pe_int pa_nil))))
      (pss_cons (ps_set (i := 3) sc_law_other_piece.nd rfl (Or.inl rfl) (pe_fn G_law_draw (hr.mono (by decide)) rfl (pa_cons (pv 0) (pa_cons (pe_callB (call_max2 rfl) rfl B.max_ bt_max (pa_cons pe_int (pa_cons (pe_callB call_len_seq rfl B.len_ bt_len (pa_cons (pv 1) pa_nil)) pa_nil))) pa_nil))))
      (pss_cons (ps_set (i := 4) sc_law_other_piece.nd rfl (Or.inl rfl) (pe_ix ix_list (pe_lst (pa_cons (pe_un un_neg pe_int) (pa_cons (pe_un un_neg pe_int) (pa_cons pe_int (pa_cons pe_int pa_nil))))) (pe_fn G_law_draw (hr.mono (by decide)) rfl (pa_cons (pv 0) (pa_cons pe_int pa_nil))) (fun _ _ => rfl)))
      (pss_cons (ps_set (i := 5) sc_law_other_piece.nd rfl (Or.inr rfl) (pe_fn G_law_field (hr.mono (by decide)) rfl (pa_cons (pv 0) pa_nil)))
      (pss_cons (ps_if (PW.pt (pw_or (pt_cmpR (op_eqD (roomD_of hr)) (pv 1) (pe_tup pa_nil) (nomark _)) (pw_or1 (PW.pt (pw_and (pt_cmpR op_eq (pv 2) pe_int (nomark _)) (pw_and1 (pt_cmpR op_lt (pe_callB call_len_seq rfl B.len_ bt_len (pa_cons (pv 1) pa_nil)) pe_int (nomark _)))))))) (pss_cons (ps_setLC (N' := ["part", "field"]) (js := [none, some 5]) (i := 6) sc_law_other_piece.nd rfl (Or.inl rfl) rfl (capOk (N := ["bag", "piece", "choice", "at", "step", "field", "rest"]) (outer := defScope s_law_other_piece) (by decide +kernel)) (pi_tup (pv 1)) (fun _ _ _ _ _ => (pg_name (i := 0) (show List.Nodup (["part", "field"] : List Str) by decide +kernel) rfl (Or.inl rfl))) (fun _ _ _ _ _ => pifs_one (pt_cmpR op_ne (pe_ix (ix_tupK K rfl) (pv 0) pe_int (fun _ _ => rfl)) (pv 1) (nomark _))) (fun _ _ _ _ _ => (pv 0)))
      (pss_one (ps_ret (pe_callTy call_tuple_of rfl B.tuple_ bt_tuple (pa_cons (pe_callB call_sortedT rfl B.sorted_ bt_sorted (pa_cons (pe_op op_cat (pv 6) (pe_lst (pa_cons (pe_tup (pa_cons (pv 5) (pa_cons (pv 4) pa_nil))) pa_nil))) pa_nil)) pa_nil))))) pss_nil)
      (pss_cons (ps_if (pt_cmpR op_eq (pv 2) pe_int (nomark _)) (pss_one (ps_ret (pe_op op_catU (pe_slice sl_tupU (pv 1) po_none (po_some (pv 3))) (pe_slice sl_tupU (pv 1) (po_some (pe_op op_add (pv 3) pe_int)) po_none)))) pss_nil)
      (pss_one (ps_ret (pe_op op_catU (pe_op op_catU (pe_slice sl_tupU (pv 1) po_none (po_some (pv 3))) (pe_tup (pa_cons (pe_tup (pa_cons (pe_ix ix_tup (pe_ix ix_tup (pv 1) (pv 3) (fun _ _ => rfl)) pe_int (fun _ _ => rfl)) (pa_cons (pe_fn G_law_held (hr.mono (by decide)) rfl (pa_cons (pe_op op_add (pe_ix ix_tup (pe_ix ix_tup (pv 1) (pv 3) (fun _ _ => rfl)) pe_int (fun _ _ => rfl)) (pv 4)) pa_nil)) pa_nil))) pa_nil))) (pe_slice sl_tupU (pv 1) (po_some (pe_op op_add (pv 3) pe_int)) po_none)))))))))), ?_⟩
  refine ⟨_, rfl, b, g, l, n, 4, rfl, Bg, by omega, by decide, by decide, fun c H1 c0 c1 B1 S1 => ?_⟩
  have P1 := hp.sameB Bg S1
  obtain ⟨xs1, ex1, lx1⟩ := P1.tyN
  have p8 := pd.len
  have big : ∀ m : Int, m ≤ 100 → m < 2 ^ 500 := fun m hm => by
    have : (100 : Int) < 2 ^ 500 := by decide
    omega
  obtain ⟨M, eM, M1, M2, M3⟩ : ∃ M : Int, (if ((xs1.length : Nat) : Int) > 1 then ((xs1.length : Nat) : Int) else 1) = M ∧ 1 ≤ M ∧ M ≤ 8 ∧ (0 < p.length → M = p.length) := ⟨_, rfl, by split <;> omega, by rw [lx1]; split <;> omega, by rw [lx1]; split <;> omega⟩
  refine ⟨_, rfl, _, rfl, pa, _, rfl, .inr (SqT.of ex1), _, _, rfl, ?_⟩
  rw [eM]
  refine ⟨b, g, l, _, M, rfl, B1, by omega, by omega, big M (by omega), fun at' H2 a0 a1 B2 S2 => ?_⟩
  have P2 := P1.sameB B1 S2
  refine ⟨_, rfl, _, rfl, (by show 4 ≤ sizeLine; decide), fun lp hlp => ?_⟩
  have s3 := same_new hlp (.lst [V.int (-2), V.int (-1), V.int 1, V.int 2])
  obtain ⟨lb, lg, _⟩ := B2.free hlp
  have e3 : (upd H2 lp (.lst [V.int (-2), V.int (-1), V.int 1, V.int 2])) lp = some (.lst [V.int (-2), V.int (-1), V.int 1, V.int 2]) := upd_same
  have B3 := B2.same s3
  have P3 := P2.same s3
  have S03 := (S1.trans S2).trans s3.sameB
  generalize upd H2 lp (.lst [V.int (-2), V.int (-1), V.int 1, V.int 2]) = H3 at *
  refine ⟨_, rfl, b, g, l, _, 4, rfl, B3, by omega, by decide, by decide, fun k H4 k0 k1 B4 S4 => ?_⟩
  obtain ⟨st, hst⟩ : ∃ st, atI [V.int (-2), V.int (-1), V.int 1, V.int 2] k = some (.int st) := by
    have : k = 0 ∨ k = 1 ∨ k = 2 ∨ k = 3 := by omega
    rcases this with rfl | rfl | rfl | rfl
    · exact ⟨-2, rfl⟩
    · exact ⟨-1, rfl⟩
    · exact ⟨1, rfl⟩
    · exact ⟨2, rfl⟩
  refine ⟨lp, _, _, _, rfl, rfl, SqL.of (S4 lp _ e3 lb lg), hst, ?_⟩
  have P4 := P3.sameB B3 S4
  have S04 := S03.trans S4
  refine ⟨_, rfl, b, g, l, _, rfl, B4, by omega, fun f H5 fok B5 S5 => ?_⟩
  have P5 := P4.sameB B4 S5
  have S05 := S04.trans S5
  refine name_then ?_
  dsimp only
  refine seq_if (fun bb H' => bb = (p.isEmpty || (decide (V.int c = V.int 0) && decide ((p.length : Int) < 8))) ∧ Same H5 H') (fun R hR => ?_) ?_ ?_
  · refine ⟨_, rfl, (by show 0 ≤ sizeLine; exact Nat.zero_le _), fun ep hep => ?_⟩
    have s6 := same_new hep (.tup [])
    obtain ⟨xs6, ex6, lx6⟩ := (P5.same s6).tyN
    refine eqNilP (P5.same s6) upd_same ⟨_, rfl, ?_⟩
    cases he : p.isEmpty with
    | true => exact iteT (hR _ _ ⟨by rw [he]; rfl, s6⟩)
    | false =>
      refine iteF ⟨_, rfl, rfl, _, rfl, ite2 (fun hc => ?_) (fun hc => ?_)⟩
      · refine ⟨_, rfl, pa, _, rfl, .inr (SqT.of ex6), _, _, rfl, rfl, _, rfl, hR _ _ ⟨?_, s6⟩⟩
        rw [he, hc, lx6]
        rfl
      · refine hR _ _ ⟨?_, s6⟩
        rw [he, Bool.eq_false_iff.mpr hc]
        rfl
  · rintro H6 ⟨hb, s6⟩
    obtain ⟨ps, hps, hA, hP⟩ := P5.same s6
    have lp8 : ps.length ≤ 7 := by
      have e1 : ps.length = p.length := by rw [← hps, List.length_map]
      rw [e1]
      cases p with
      | nil => simp
      | cons x r =>
        simp only [List.isEmpty_cons, Bool.false_or] at hb
        have := (Bool.and_eq_true _ _).mp hb.symm
        have := of_decide_eq_true this.2
        omega
    have B6 := B5.same s6
    refine ⟨_, rfl, pa, rfl, ⟨_, SqT.of hA⟩, fun rl hrl => ?_⟩
    refine lc_tup (xs := ps.map fun p => V.ref p.1) (fun j σ' ys H2' => (∃ v1, σ' = [v1, some (.str f)]) ∧ Same H6 H2' ∧ H2' rl = some (.lst ys) ∧ ys = (((ps.take j).filter fun q => !decide (q.2.1 = f)).map fun q => V.ref q.1)) ⟨⟨none, rfl⟩, same_new hrl _, upd_same, rfl⟩ ?_ ?_ ?_
    · rintro j σ' ys H2' hj ⟨_, s2, h1, h2⟩
      refine ⟨s2.seqT (SqT.of hA), h1, ?_⟩
      rw [h2, List.length_map]
      have := List.length_filter_le (fun q : Addr × PP => !decide (q.2.1 = f)) (ps.take j)
      rw [List.length_take] at this
      exact small1000 (by omega)
    · rintro j y σ' ys H2' N hy ⟨⟨v1, rfl⟩, s2, h1, h2⟩ hN
      rw [List.getElem?_map] at hy
      cases e2 : ps[j]? with
      | none => rw [e2] at hy; cases hy
      | some Pj =>
        rw [e2] at hy
        obtain rfl : V.ref Pj.1 = y := Option.some.inj hy
        have hm2 := List.mem_of_getElem? e2
        refine ⟨_, rfl, Pj.1, _, 0, _, rfl, rfl, SqT.of (s2 _ _ (hP Pj hm2)), rfl, _, rfl, rfl, _, rfl, ite2 (fun hx => ?_) (fun hx => ?_)⟩
        · have hx' : Pj.2.1 ≠ f := fun z => by rw [z] at hx; simp at hx
          refine ⟨_, rfl, h1, hN _ _ _ ⟨⟨_, rfl⟩, upd_off s2 hrl, upd_same, ?_⟩⟩
          rw [h2, take_snoc e2, List.filter_append, List.map_append, List.filter_cons, if_pos (by rw [decide_eq_false hx']; rfl)]
          rfl
        · have hx' : Pj.2.1 = f := by
            cases hd' : decide (V.str Pj.2.1 = V.str f) with
            | true => exact V.str.inj (of_decide_eq_true hd')
            | false => exact absurd (by show (!decide (V.str Pj.2.1 = V.str f)) = true; rw [hd']; rfl) hx
          refine hN _ _ _ ⟨⟨_, rfl⟩, s2, h1, ?_⟩
          rw [h2, take_snoc e2, List.filter_append, List.filter_cons, if_neg (by rw [decide_eq_true hx']; simp), List.filter_nil, List.append_nil]
    · rintro σ' ys H7 ⟨_, s7, h1, h2⟩
      rw [show ps.take (ps.map fun p => V.ref p.1).length = ps from List.take_of_length_le (by simp)] at h2
      obtain ⟨rs, ers⟩ : ∃ rs, ps.filter (fun q : Addr × PP => !decide (q.2.1 = f)) = rs := ⟨_, rfl⟩
      rw [ers] at h2
      subst h2
      have sub : rs.Sublist ps := by rw [← ers]; exact List.filter_sublist
      have nof : ∀ q ∈ rs, q.2.1 ≠ f := fun q hq z => by
        rw [← ers] at hq
        have := (List.mem_filter.mp hq).2
        rw [z] at this
        simp at this
      have lrs : rs.length ≤ 7 := Nat.le_trans sub.length_le lp8
      refine ⟨_, rfl, _, rfl, _, rfl, (by show 2 ≤ sizeLine; decide), fun t ht => ?_⟩
      have s8 := same_new ht (.tup [V.str f, V.int st])
      have et : (upd H7 t (.tup [V.str f, V.int st])) t = some (.tup [V.str f, V.int st]) := upd_same
      have h18 := s8 _ _ h1
      generalize upd H7 t (.tup [V.str f, V.int st]) = H8 at *
      refine ⟨(by show 1 ≤ sizeLine; decide), fun l1 hl1 => ?_⟩
      have s9 := same_new hl1 (.lst [V.ref t])
      have e9 : (upd H8 l1 (.lst [V.ref t])) l1 = some (.lst [V.ref t]) := upd_same
      have et9 := s9 _ _ et
      have h19 := s9 _ _ h18
      generalize upd H8 l1 (.lst [V.ref t]) = H9 at *
      refine ⟨rl, l1, _, _, rfl, rfl, h19, e9, (by rw [List.length_map]; exact small (by simp; omega)), fun l2 hl2 => ?_⟩
      have s10 := same_new hl2 (.lst (rs.map (fun q => V.ref q.1) ++ [V.ref t]))
      have e10 : (upd H9 l2 (.lst (rs.map (fun q => V.ref q.1) ++ [V.ref t]))) l2 = some (.lst ((rs ++ [(t, f, st)]).map fun q => V.ref q.1)) := by rw [upd_same, List.map_append]; rfl
      have et10 := s10 _ _ et9
      have t10 := s7.trans (s8.trans (s9.trans s10))
      generalize upd H9 l2 (.lst (rs.map (fun q => V.ref q.1) ++ [V.ref t])) = H10 at *
      have tups : ∀ x ∈ rs ++ [((t, f, st) : TI3)], H10 x.1 = some (.tup [.str x.2.1, .int x.2.2]) := fun x hx => by
        rcases List.mem_append.mp hx with z | z
        · exact t10 _ _ (hP x (sub.subset z))
        · rw [List.mem_singleton.mp z]; exact et10
      have asc0 : (ps.map (·.2.1)).Pairwise ltF := by
        have := pd.asc
        rw [← hps, List.map_map] at this
        exact this
      have ndp : ((rs ++ [((t, f, st) : TI3)]).map (·.2.1)).Nodup := by
        rw [List.map_append, List.nodup_append]
        refine ⟨(asc0.sublist (sub.map _)).imp fun h => ltF_ne h, by simp, fun a ha b' hb' => ?_⟩
        obtain ⟨x, hx, rfl⟩ := List.mem_map.mp ha
        simp only [List.map_cons, List.map_nil, List.mem_singleton] at hb'
        rw [hb']
        exact nof x hx
      refine ⟨l2, rs ++ [(t, f, st)], rfl, SqL.of e10, tups, (by rw [List.length_append]; simp; omega), ndp, fun r qs pm asc hr' => ?_⟩
      have s11 := same_new hr' (.lst (qs.map fun q => V.ref q.1))
      refine ⟨r, _, rfl, .inl ⟨SqL.of upd_same, fun t2 ht2 => ?_⟩⟩
      have s12 := same_new ht2 (.tup (qs.map fun q => V.ref q.1))
      have t12 := s6.trans (t10.trans (s11.trans s12))
      refine q t2 (qs.map (·.2)) _ ⟨qs, rfl, upd_same, fun x hx => (s11.trans s12) _ _ (tups x (pm.mem_iff.mp hx))⟩ ⟨?_, ?_, ?_⟩ ((B5.same t12).mono (by omega)) (S05.trans t12.sameB)
      · rw [List.length_map, pm.length_eq, List.length_append]; simp; omega
      · intro x hx
        obtain ⟨y, hy, rfl⟩ := List.mem_map.mp hx
        rcases List.mem_append.mp (pm.mem_iff.mp hy) with z | z
        · exact pd.ok _ (by rw [← hps]; exact List.mem_map_of_mem (sub.subset z))
        · rw [List.mem_singleton.mp z]; exact fok
      · rw [List.map_map]; exact asc
  · rintro H6 ⟨hb, s6⟩
    have pne : 0 < p.length := by
      cases p with
      | nil => simp at hb
      | cons x r => simp
    have P6 := P5.same s6
    have B6 := B5.same s6
    have S06 := S05.trans s6.sameB
    obtain ⟨ps, rfl, hA, hP⟩ := P6
    have eM' := M3 pne
    rw [List.length_map] at eM' pne
    have asc0 : (ps.map (·.2.1)).Pairwise ltF := by
      have := pd.asc
      rw [List.map_map] at this
      exact this
    obtain ⟨k', rfl⟩ : ∃ k' : Nat, at' = (k' : Int) := ⟨at'.toNat, by omega⟩
    have hk : k' < ps.length := by omega
    refine ⟨_, rfl, rfl, _, rfl, ite2 (fun _ => ?_) (fun _ => ?_)⟩
    · refine ⟨_, rfl, _, rfl, _, rfl, pa, _, rfl, hA, fun p1 H7 s7 e7 => ?_⟩
      refine ⟨_, rfl, _, rfl, _, _, rfl, rfl, _, rfl, pa, _, rfl, s7 _ _ hA, fun p2 H8 s8 e8 => ?_⟩
      rw [cutV_take rfl, ← List.map_take] at e7
      rw [cutV_drop (n := k' + 1) (by omega), ← List.map_drop] at e8
      refine ⟨p1, p2, _, _, rfl, rfl, s8 _ _ e7, e8, (by rw [List.length_map, List.length_map, List.length_take, List.length_drop]; exact small (by omega)), fun r H9 s9 e9 => ?_⟩
      have tt := s7.trans (s8.trans s9)
      have sub : (ps.take k' ++ ps.drop (k' + 1)).Sublist ps := by
        rw [← List.eraseIdx_eq_take_drop_succ]
        exact List.eraseIdx_sublist ..
      rw [← List.map_append] at e9
      exact q r ((ps.take k' ++ ps.drop (k' + 1)).map (·.2)) _ ⟨_, rfl, e9, fun x hx => tt _ _ (hP x (sub.subset hx))⟩ (pd.sub (sub.map _)) ((B6.same tt).mono (by omega)) (S06.trans tt.sameB)
    · obtain ⟨Pk, ePk⟩ : ∃ Pk, ps[k']? = some Pk := ⟨ps[k'], List.getElem?_eq_getElem hk⟩
      have hmk := List.mem_of_getElem? ePk
      have hat : atI (ps.map fun (p : Addr × PP) => V.ref p.1) (k' : Int) = some (V.ref Pk.1) := atI_nat (by rw [List.getElem?_map, ePk]; rfl)
      refine ⟨_, rfl, _, rfl, _, rfl, pa, _, rfl, hA, fun p1 H7 s7 e7 => ?_⟩
      rw [cutV_take rfl, ← List.map_take] at e7
      have hA7 := s7 _ _ hA
      have eP7 := s7 _ _ (hP Pk hmk)
      refine ⟨_, rfl, _, rfl, pa, _, _, _, rfl, rfl, SqT.of hA7, hat, Pk.1, _, 0, _, rfl, rfl, SqT.of eP7, rfl, ?_⟩
      refine ⟨_, rfl, _, rfl, pa, _, _, _, rfl, rfl, SqT.of hA7, hat, Pk.1, _, 1, _, rfl, rfl, SqT.of eP7, rfl, _, rfl, _, _, rfl, rfl, _, rfl, ?_⟩
      refine ⟨(by show 2 ≤ sizeLine; decide), fun t ht => ?_⟩
      have s8 := same_new ht (.tup [V.str Pk.2.1, V.int (heldF (Pk.2.2 + st))])
      have et : (upd H7 t (.tup [V.str Pk.2.1, V.int (heldF (Pk.2.2 + st))])) t = some (.tup [V.str Pk.2.1, V.int (heldF (Pk.2.2 + st))]) := upd_same
      have e78 := s8 _ _ e7
      have hA8 := s8 _ _ hA7
      generalize upd H7 t (.tup [V.str Pk.2.1, V.int (heldF (Pk.2.2 + st))]) = H8 at *
      refine ⟨(by show 1 ≤ sizeLine; decide), fun t1 ht1 => ?_⟩
      have s9 := same_new ht1 (.tup [V.ref t])
      have et1 : (upd H8 t1 (.tup [V.ref t])) t1 = some (.tup [V.ref t]) := upd_same
      have e79 := s9 _ _ e78
      have et9 := s9 _ _ et
      have hA9 := s9 _ _ hA8
      generalize upd H8 t1 (.tup [V.ref t]) = H9 at *
      refine ⟨p1, t1, _, _, rfl, rfl, e79, et1, (by rw [List.length_map, List.length_take]; exact small (by simp; omega)), fun r1 H10 s10 e10 => ?_⟩
      refine ⟨_, rfl, _, rfl, _, _, rfl, rfl, _, rfl, pa, _, rfl, s10 _ _ hA9, fun p2 H11 s11 e11 => ?_⟩
      rw [cutV_drop (n := k' + 1) (by omega), ← List.map_drop] at e11
      refine ⟨r1, p2, _, _, rfl, rfl, s11 _ _ e10, e11, (by rw [List.length_append, List.length_map, List.length_map, List.length_take, List.length_drop]; exact small (by simp; omega)), fun r H12 s12 e12 => ?_⟩
      have t9 := s10.trans (s11.trans s12)
      have tt := s7.trans (s8.trans (s9.trans t9))
      have eqs : ps.take k' ++ Pk :: ps.drop (k' + 1) = ps := by
        have := List.take_append_drop k' ps
        rw [List.drop_eq_getElem_cons hk] at this
        rw [(List.getElem?_eq_some_iff.mp ePk).2] at this
        exact this
      have fsame : ((ps.take k' ++ [((t, Pk.2.1, heldF (Pk.2.2 + st)) : Addr × PP)] ++ ps.drop (k' + 1)).map (·.2)).map (·.1) = (ps.map (·.2)).map (·.1) := by
        have e2 : (ps.map (·.2)).map (·.1) = ((ps.take k' ++ Pk :: ps.drop (k' + 1)).map (·.2)).map (·.1) := by rw [eqs]
        rw [e2]
        simp
      refine q r ((ps.take k' ++ [((t, Pk.2.1, heldF (Pk.2.2 + st)) : Addr × PP)] ++ ps.drop (k' + 1)).map (·.2)) _ ⟨_, rfl, by rw [e12, List.map_append, List.map_append]; rfl, fun x hx => ?_⟩ ⟨?_, ?_, ?_⟩ ((B6.same tt).mono (by omega)) (S06.trans tt.sameB)
      · rcases List.mem_append.mp hx with z | z
        · rcases List.mem_append.mp z with z | z
          · exact tt _ _ (hP x (List.mem_of_mem_take z))
          · rw [List.mem_singleton.mp z]; exact t9 _ _ et9
        · exact tt _ _ (hP x (List.mem_of_mem_drop z))
      · have := congrArg List.length fsame
        simp only [List.length_map] at this p8 ⊢
        rw [this]
        exact p8
      · intro x hx
        have : x.1 ∈ (ps.map (·.2)).map (·.1) := by rw [← fsame]; exact List.mem_map_of_mem hx
        obtain ⟨y, hy, e⟩ := List.mem_map.mp this
        rw [← e]
        exact pd.ok y hy
      · rw [fsame]; exact pd.asc

theorem sc_law_other_wish : FnScope ["bag", "wish", "choice", "at", "field", "low", "high", "part"] ["bag", "wish"] (defScope s_law_other_wish) := ⟨rfl, rfl, rfl, by decide +kernel, rfl, by decide +kernel, by decide +kernel⟩
theorem ok_law_other_wish {f : Addr} {fd : FuncData} (F : Fun K "_law_other_wish" "_law_other_wish" s_law_other_wish f fd) (B : Bl mg) {t_MOST_LETTERS : Tok} (C_MOST_LETTERS : mg "MOST_LETTERS" = some (.int 8 t_MOST_LETTERS)) (G_law_draw : FnH P w K mg base 1 "_law_draw" ["bag", "many"] (spDraw)) : FnOk P w K mg base CX0 2 f fd ["bag", "wish"] (spOtherWish) := by
  refine F.ok sc_law_other_wish (fun vs H Q E h => ?_) (fun cdv A outer s H vs Q E hr h => ?_)
  · obtain ⟨b, g, l, n, wa, w', rfl, Bg, hn, hw, wd, q⟩ := h
    rfl
  obtain ⟨b, g, l, n, wa, w', rfl, Bg, hn, hw, wd, q⟩ := h
  refine ⟨_, (pss_cons (ps_set (i := 2) sc_law_other_wish.nd rfl (Or.inl rfl) (pe_fn G_law_draw (hr.mono (by decide)) rfl (pa_cons (pv 0) (pa_cons pe_int pa_nil))))
      (pss_cons (ps_set (i := 3) sc_law_other_wish.nd rfl (Or.inl rfl) (pe_fn G_law_draw (hr.mono (by decide)) rfl (pa_cons (pv 0) (pa_cons (pe_callB (call_max2 rfl) rfl B.max_ bt_max (pa_cons pe_int (pa_cons (pe_callB call_len_seq rfl B.len_ bt_len (pa_cons (pv 1) pa_nil)) pa_nil))) pa_nil))))
      (pss_cons (ps_if (PW.pt (pw_or (pt_cmpR (op_eqD (roomD_of hr)) (pv 1) (pe_tup pa_nil) (nomark _)) (pw_or1 (pt_cmpR op_eq (pv 2) pe_int (nomark _))))) (pss_one (ps_ret (pe_tup pa_nil))) pss_nil)
      (pss_cons (ps_asg (pe_ix ix_tup (pv 1) (pv 3) (fun _ _ => rfl)) (pg_tup rfl (pgs_cons (pg_name (i := 4) sc_law_other_wish.nd rfl (Or.inl rfl)) (pgs_cons (pg_name (i := 5) sc_law_other_wish.nd rfl (Or.inl rfl)) (pgs_cons (pg_name (i := 6) sc_law_other_wish.nd rfl (Or.inl rfl)) pgs_nil)))))
      (pss_cons (ps_set (i := 7) sc_law_other_wish.nd rfl (Or.inl rfl) (pe_ix ix_list (pe_lst (pa_cons (pe_tup (pa_cons (pv 4) (pa_cons pe_non (pa_cons (pv 6) pa_nil)))) (pa_cons (pe_tup (pa_cons (pv 4) (pa_cons (pv 5) (pa_cons pe_non pa_nil)))) (pa_cons (pe_tup (pa_cons (pv 4) (pa_cons (pv 5) (pa_cons (pv 5) pa_nil)))) pa_nil)))) (pe_op op_add (pe_callB (call_max2 rfl) rfl B.max_ bt_max (pa_cons pe_int (pa_cons (pe_op op_sub (pv 2) pe_int) pa_nil))) (pe_fn G_law_draw (hr.mono (by decide)) rfl (pa_cons (pv 0) (pa_cons pe_int pa_nil)))) (fun _ _ => rfl)))
      (pss_one (ps_ret (pe_op op_catU (pe_op op_catU (pe_slice sl_tupU (pv 1) po_none (po_some (pv 3))) (pe_ifExp (pt_cmpR op_gt (pv 2) pe_int (nomark _)) (pe_tup (pa_cons (pv 7) pa_nil)) (pe_tup pa_nil))) (pe_slice sl_tupU (pv 1) (po_some (pe_op op_add (pv 3) pe_int)) po_none))))))))), ?_⟩
  refine ⟨_, rfl, b, g, l, n, 4, rfl, Bg, by omega, by decide, by decide, fun c H1 c0 c1 B1 S1 => ?_⟩
  have P1 := hw.sameB Bg S1
  obtain ⟨xs1, ex1, lx1⟩ := P1.tyN
  have p8 := wd.len
  have big : ∀ m : Int, m ≤ 100 → m < 2 ^ 500 := fun m hm => by
    have : (100 : Int) < 2 ^ 500 := by decide
    omega
  obtain ⟨M, eM, M1, M2, M3⟩ : ∃ M : Int, (if ((xs1.length : Nat) : Int) > 1 then ((xs1.length : Nat) : Int) else 1) = M ∧ 1 ≤ M ∧ M ≤ 9 ∧ (0 < w'.length → M = w'.length) := ⟨_, rfl, by split <;> omega, by rw [lx1]; split <;> omega, by rw [lx1]; split <;> omega⟩
  refine ⟨_, rfl, _, rfl, wa, _, rfl, .inr (SqT.of ex1), _, _, rfl, ?_⟩
  rw [eM]
  refine ⟨b, g, l, _, M, rfl, B1, by omega, by omega, big M (by omega), fun at' H2 a0 a1 B2 S2 => ?_⟩
  have P2 := P1.sameB B1 S2
  have S02 := S1.trans S2
  refine name_then ?_
  dsimp only
  refine seq_if (fun bb H' => bb = (w'.isEmpty || decide (V.int c = V.int 0)) ∧ Same H2 H') (fun R hR => ?_) ?_ ?_
  · refine ⟨_, rfl, (by show 0 ≤ sizeLine; exact Nat.zero_le _), fun ep hep => ?_⟩
    have s6 := same_new hep (.tup [])
    refine eqNilW (P2.same s6) upd_same ⟨_, rfl, ?_⟩
    cases he : w'.isEmpty with
    | true => exact iteT (hR _ _ ⟨by rw [he]; rfl, s6⟩)
    | false => exact iteF ⟨_, rfl, rfl, _, rfl, hR _ _ ⟨by rw [he]; rfl, s6⟩⟩
  · rintro H6 ⟨hb, s6⟩
    refine ⟨(by show 0 ≤ sizeLine; exact Nat.zero_le _), fun ep hep => ?_⟩
    have s7 := same_new hep (.tup [])
    have tt := s6.trans s7
    exact q ep [] _ ⟨[], rfl, upd_same, fun x hx => by simp at hx⟩ ⟨by simp, fun x hx => by simp at hx, by simp⟩ ((B2.same tt).mono (by omega)) (S02.trans tt.sameB)
  · rintro H6 ⟨hb, s6⟩
    have pne : 0 < w'.length := by
      cases w' with
      | nil => simp at hb
      | cons x r => simp
    have hc0 : c ≠ 0 := fun z => by
      subst z
      simp at hb
    have P6 := P2.same s6
    have B6 := B2.same s6
    have S06 := S02.trans s6.sameB
    obtain ⟨ps, rfl, hA, hP⟩ := P6
    have eM' := M3 pne
    rw [List.length_map] at eM' pne p8
    obtain ⟨k', rfl⟩ : ∃ k' : Nat, at' = (k' : Int) := ⟨at'.toNat, by omega⟩
    have hk : k' < ps.length := by omega
    obtain ⟨Pk, ePk⟩ : ∃ Pk, ps[k']? = some Pk := ⟨ps[k'], List.getElem?_eq_getElem hk⟩
    have hmk := List.mem_of_getElem? ePk
    have gk := wd.ok Pk.2 (List.mem_map_of_mem hmk)
    have hat : atI (ps.map fun (p : Addr × WP) => V.ref p.1) (k' : Int) = some (V.ref Pk.1) := atI_nat (by rw [List.getElem?_map, ePk]; rfl)
    refine ⟨_, rfl, _, rfl, wa, _, _, _, rfl, rfl, SqT.of hA, hat, Pk.1, _, rfl, SqT.of (hP Pk hmk), rfl, _, _, rfl, _, _, rfl, _, _, rfl, rfl, ?_⟩
    refine ⟨_, rfl, _, rfl, (by show 3 ≤ sizeLine; decide), fun u1 hu1 => ?_⟩
    have s7 := same_new hu1 (.tup [V.str Pk.2.1, V.non, eV Pk.2.2.2])
    have f1 : (upd H6 u1 (.tup [V.str Pk.2.1, V.non, eV Pk.2.2.2])) u1 = some (.tup [V.str Pk.2.1, V.non, eV Pk.2.2.2]) := upd_same
    generalize upd H6 u1 (.tup [V.str Pk.2.1, V.non, eV Pk.2.2.2]) = H7 at *
    refine ⟨_, rfl, _, rfl, (by show 3 ≤ sizeLine; decide), fun u2 hu2 => ?_⟩
    have s8 := same_new hu2 (.tup [V.str Pk.2.1, eV Pk.2.2.1, V.non])
    have f2 : (upd H7 u2 (.tup [V.str Pk.2.1, eV Pk.2.2.1, V.non])) u2 = some (.tup [V.str Pk.2.1, eV Pk.2.2.1, V.non]) := upd_same
    have f1 := s8 _ _ f1
    generalize upd H7 u2 (.tup [V.str Pk.2.1, eV Pk.2.2.1, V.non]) = H8 at *
    refine ⟨_, rfl, _, rfl, _, rfl, (by show 3 ≤ sizeLine; decide), fun u3 hu3 => ?_⟩
    have s9 := same_new hu3 (.tup [V.str Pk.2.1, eV Pk.2.2.1, eV Pk.2.2.1])
    have f3 : (upd H8 u3 (.tup [V.str Pk.2.1, eV Pk.2.2.1, eV Pk.2.2.1])) u3 = some (.tup [V.str Pk.2.1, eV Pk.2.2.1, eV Pk.2.2.1]) := upd_same
    have f1 := s9 _ _ f1
    have f2 := s9 _ _ f2
    generalize upd H8 u3 (.tup [V.str Pk.2.1, eV Pk.2.2.1, eV Pk.2.2.1]) = H9 at *
    refine ⟨(by show 3 ≤ sizeLine; decide), fun u4 hu4 => ?_⟩
    have s10 := same_new hu4 (.lst [V.ref u1, V.ref u2, V.ref u3])
    have f4 : (upd H9 u4 (.lst [V.ref u1, V.ref u2, V.ref u3])) u4 = some (.lst [V.ref u1, V.ref u2, V.ref u3]) := upd_same
    have f1 := s10 _ _ f1
    have f2 := s10 _ _ f2
    have f3 := s10 _ _ f3
    have t10 := s7.trans (s8.trans (s9.trans s10))
    generalize upd H9 u4 (.lst [V.ref u1, V.ref u2, V.ref u3]) = H10 at *
    have B10 := B6.same t10
    have nu4 : H6 u4 = none := none_of (s7.trans (s8.trans s9)) hu4
    obtain ⟨ub, ug, _⟩ := B6.free nu4
    refine ⟨_, rfl, _, _, rfl, rfl, _, _, rfl, _, rfl, b, g, l, _, 2, rfl, B10, by omega, by decide, by decide, fun k H11 k0 k1 B11 S11 => ?_⟩
    have f1 := S11.tup B10 f1
    have f2 := S11.tup B10 f2
    have f3 := S11.tup B10 f3
    have f4 := S11 _ _ f4 ub ug
    have mx : (if c - 2 > 0 then c - 2 else 0) = 0 ∨ (if c - 2 > 0 then c - 2 else 0) = 1 := by split <;> omega
    obtain ⟨u, lo, hi, hu, fu, gu⟩ : ∃ (u : Addr) (lo hi : Option Int), atI [V.ref u1, V.ref u2, V.ref u3] ((if c - 2 > 0 then c - 2 else 0) + k) = some (.ref u) ∧ H11 u = some (.tup [V.str Pk.2.1, eV lo, eV hi]) ∧ Good lo hi := by
      have g1 : Good none Pk.2.2.2 := ⟨by cases Pk.2.2.2 <;> rfl, (fun i e => by cases e), gk.2.hi⟩
      have g2 : Good Pk.2.2.1 none := ⟨by cases Pk.2.2.1 <;> rfl, gk.2.lo, (fun i e => by cases e)⟩
      have g3 : Good Pk.2.2.1 Pk.2.2.1 := ⟨(by cases Pk.2.2.1 with | none => rfl | some i => exact decide_eq_true (Int.le_refl _)), gk.2.lo, gk.2.lo⟩
      have : (if c - 2 > 0 then c - 2 else 0) + k = 0 ∨ (if c - 2 > 0 then c - 2 else 0) + k = 1 ∨ (if c - 2 > 0 then c - 2 else 0) + k = 2 := by omega
      rcases this with e | e | e
      · rw [e]; exact ⟨u1, none, Pk.2.2.2, rfl, f1, g1⟩
      · rw [e]; exact ⟨u2, Pk.2.2.1, none, rfl, f2, g2⟩
      · rw [e]; exact ⟨u3, Pk.2.2.1, Pk.2.2.1, rfl, f3, g3⟩
    refine ⟨_, _, rfl, rfl, u4, _, _, _, rfl, rfl, SqL.of f4, hu, ?_⟩
    have S06' := (S06.trans t10.sameB).trans S11
    have hA11 := S11.tup B10 (t10 _ _ hA)
    have hP11 : ∀ x ∈ ps, H11 x.1 = some (.tup [.str x.2.1, eV x.2.2.1, eV x.2.2.2]) := fun x hx => S11.tup B10 (t10 _ _ (hP x hx))
    refine ⟨_, rfl, _, rfl, _, rfl, wa, _, rfl, hA11, fun p1 H12 s12 e12 => ?_⟩
    rw [cutV_take rfl, ← List.map_take] at e12
    have eqs : ps.take k' ++ Pk :: ps.drop (k' + 1) = ps := by
      have := List.take_append_drop k' ps
      rw [List.drop_eq_getElem_cons hk] at this
      rw [(List.getElem?_eq_some_iff.mp ePk).2] at this
      exact this
    have fin : ∀ (H13 : Hp) (t1 : Addr) (ms : List (Addr × WP)), Same H12 H13 → H13 t1 = some (.tup (ms.map fun q => V.ref q.1)) → (ms = [] ∨ ms = [(u, Pk.2.1, lo, hi)]) → ∀ (r1 : Addr) (H14 : Hp), Same H13 H14 → H14 r1 = some (.tup ((ps.take k').map (fun q => V.ref q.1) ++ ms.map fun q => V.ref q.1)) →
        ∀ (p2 : Addr) (H15 : Hp), Same H14 H15 → H15 p2 = some (.tup (cutV (ps.map fun q => V.ref q.1) (some ((k' : Int) + 1)) none)) → ∀ (r : Addr) (H16 : Hp), Same H15 H16 → H16 r = some (.tup ((ps.take k').map (fun q => V.ref q.1) ++ (ms.map fun q => V.ref q.1) ++ cutV (ps.map fun q => V.ref q.1) (some ((k' : Int) + 1)) none)) → Q (.ref r) H16 := by
      intro H13 t1 ms s13 e13 hms r1 H14 s14 e14 p2 H15 s15 e15 r H16 s16 e16
      have tt := s12.trans (s13.trans (s14.trans (s15.trans s16)))
      rw [cutV_drop (n := k' + 1) (by omega), ← List.map_drop, ← List.map_append, ← List.map_append] at e16
      refine q r ((ps.take k' ++ ms ++ ps.drop (k' + 1)).map (·.2)) _ ⟨_, rfl, e16, fun x hx => ?_⟩ ?_ ((B11.same tt).mono (by omega)) (S06'.trans tt.sameB)
      · rcases List.mem_append.mp hx with z | z
        · rcases List.mem_append.mp z with z | z
          · exact tt _ _ (hP11 x (List.mem_of_mem_take z))
          · rcases hms with rfl | rfl
            · simp at z
            · rw [List.mem_singleton.mp z]; exact tt _ _ fu
        · exact tt _ _ (hP11 x (List.mem_of_mem_drop z))
      · rcases hms with rfl | rfl
        · have sub : (ps.take k' ++ [] ++ ps.drop (k' + 1)).Sublist ps := by
            rw [List.append_nil, ← List.eraseIdx_eq_take_drop_succ]
            exact List.eraseIdx_sublist ..
          exact wd.sub (sub.map _)
        · have fsame : ((ps.take k' ++ [((u, Pk.2.1, lo, hi) : Addr × WP)] ++ ps.drop (k' + 1)).map (·.2)).map (·.1) = (ps.map (·.2)).map (·.1) := by
            have e2 : (ps.map (·.2)).map (·.1) = ((ps.take k' ++ Pk :: ps.drop (k' + 1)).map (·.2)).map (·.1) := by rw [eqs]
            rw [e2]
            simp
          refine ⟨?_, ?_, by rw [fsame]; exact wd.asc⟩
          · have := congrArg List.length fsame
            simp only [List.length_map] at this ⊢
            rw [this]
            exact p8
          · intro x hx
            obtain ⟨y, hy, rfl⟩ := List.mem_map.mp hx
            rcases List.mem_append.mp hy with z | z
            · rcases List.mem_append.mp z with z | z
              · exact wd.ok _ (List.mem_map_of_mem (List.mem_of_mem_take z))
              · rw [List.mem_singleton.mp z]; exact ⟨gk.1, gu⟩
            · exact wd.ok _ (List.mem_map_of_mem (List.mem_of_mem_drop z))
    have lens : ∀ ms : List (Addr × WP), (ms = [] ∨ ms = [(u, Pk.2.1, lo, hi)]) → ms.length ≤ 1 := fun ms h => by rcases h with rfl | rfl <;> simp
    have go : ∀ (H13 : Hp) (t1 : Addr) (ms : List (Addr × WP)), Same H12 H13 → H13 t1 = some (.tup (ms.map fun q => V.ref q.1)) → (ms = [] ∨ ms = [(u, Pk.2.1, lo, hi)]) → ∃ a b' xs ys, V.ref p1 = .ref a ∧ V.ref t1 = .ref b' ∧ H13 a = some (.tup xs) ∧ H13 b' = some (.tup ys) ∧ xs = (ps.take k').map (fun q => V.ref q.1) ∧ ys = ms.map fun q => V.ref q.1 := fun H13 t1 ms s13 e13 hms =>
      ⟨p1, t1, _, _, rfl, rfl, s13 _ _ e12, e13, rfl, rfl⟩
    refine ⟨_, rfl, _, _, rfl, rfl, _, rfl, ite2 (fun _ => ?_) (fun _ => ?_)⟩
    · refine ⟨_, rfl, (by show 1 ≤ sizeLine; decide), fun t1 ht1 => ?_⟩
      have s13 := same_new ht1 (.tup [V.ref u])
      refine ⟨p1, t1, _, _, rfl, rfl, s13 _ _ e12, upd_same, (by rw [List.length_map, List.length_take]; exact small (by simp; omega)), fun r1 H14 s14 e14 => ?_⟩
      refine ⟨_, rfl, _, rfl, _, _, rfl, rfl, _, rfl, wa, _, rfl, s14 _ _ (s13 _ _ (s12 _ _ hA11)), fun p2 H15 s15 e15 => ?_⟩
      refine ⟨r1, p2, _, _, rfl, rfl, s15 _ _ e14, e15, (by rw [List.length_append, List.length_map, List.length_take]; have := cutV_length (ps.map fun (p : Addr × WP) => V.ref p.1) (some ((k' : Int) + 1)) none; rw [List.length_map] at this; exact small (by simp; omega)), fun r H16 s16 e16 => ?_⟩
      exact fin _ t1 [(u, Pk.2.1, lo, hi)] s13 upd_same (.inr rfl) r1 H14 s14 e14 p2 H15 s15 e15 r H16 s16 e16
    · refine ⟨(by show 0 ≤ sizeLine; exact Nat.zero_le _), fun t1 ht1 => ?_⟩
      have s13 := same_new ht1 (.tup [])
      refine ⟨p1, t1, _, _, rfl, rfl, s13 _ _ e12, upd_same, (by rw [List.length_map, List.length_take]; exact small (by simp; omega)), fun r1 H14 s14 e14 => ?_⟩
      refine ⟨_, rfl, _, rfl, _, _, rfl, rfl, _, rfl, wa, _, rfl, s14 _ _ (s13 _ _ (s12 _ _ hA11)), fun p2 H15 s15 e15 => ?_⟩
      refine ⟨r1, p2, _, _, rfl, rfl, s15 _ _ e14, e15, (by rw [List.length_append, List.length_map, List.length_take]; have := cutV_length (ps.map fun (p : Addr × WP) => V.ref p.1) (some ((k' : Int) + 1)) none; rw [List.length_map] at this; exact small (by simp; omega)), fun r H16 s16 e16 => ?_⟩
      exact fin _ t1 [] s13 upd_same (.inl rfl) r1 H14 s14 e14 p2 H15 s15 e15 r H16 s16 e16

theorem sc_law : FnScope ["script", "bag", "turn", "wish", "piece", "wishes", "pieces", "pairs", "one", "other", "found"] ["script"] (defScope s_law) := ⟨rfl, rfl, rfl, by decide +kernel, rfl, by decide +kernel, by decide +kernel⟩
theorem ok_law {f : Addr} {fd : FuncData} (F : Fun K "law" "law" s_law f fd) (B : Bl mg) {t_MOST_LETTERS : Tok} (C_MOST_LETTERS : mg "MOST_LETTERS" = some (.int 8 t_MOST_LETTERS)) (G_law_bag : FnH P w K mg base 1 "_law_bag" ["script"] (spBag K)) (G_law_pair : FnH P w K mg base 4 "_law_pair" ["bag"] (spLawPair)) (G_law_other_wish : FnH P w K mg base 2 "_law_other_wish" ["bag", "wish"] (spOtherWish)) (G_law_met : FnH P w K mg base 2 "_law_met" ["bag", "wish", "piece"] (spLawMet)) (G_law_other_piece : FnH P w K mg base 3 "_law_other_piece" ["bag", "piece"] (spOtherPiece)) (G_wants : FnH P w K mg base 7 "wants" ["wish", "piece"] (spWants)) (G_law_wants : FnH P w K mg base 2 "_law_wants" ["wish", "piece"] (spTakes)) : FnOk P w K mg base CX0 8 f fd ["script"] (spLaw K) := by
  refine F.ok sc_law (fun vs H Q E h => ?_) (fun cdv A outer s H vs Q E hr h => ?_)
  · obtain ⟨a, ns, rfl, hS, h63, q⟩ := h
    rfl
  obtain ⟨a, ns, rfl, hS, h63, q⟩ := h
  refine ⟨_, (pss_cons (ps_set (i := 1) sc_law.nd rfl (Or.inl rfl) (pe_fn G_law_bag (hr.mono (by decide)) rfl (pa_cons (pv 0) pa_nil)))
      (pss_cons (ps_for PassesOwn.never rfl (pi_range1 rfl B.range_ (pa_cons pe_int pa_nil)) (pg_name (i := 2) sc_law.nd rfl (Or.inl rfl)) (pss_cons (ps_asg (pe_fn G_law_pair (hr.mono (by decide)) rfl (pa_cons (pv 1) pa_nil)) (pg_tup rfl (pgs_cons (pg_name (i := 3) sc_law.nd rfl (Or.inl rfl)) (pgs_cons (pg_name (i := 4) sc_law.nd rfl (Or.inl rfl)) pgs_nil))))
      (pss_cons (ps_set (i := 5) sc_law.nd rfl (Or.inl rfl) (pe_lst (pa_cons (pv 3) (pa_cons (pe_fn G_law_other_wish (hr.mono (by decide)) rfl (pa_cons (pv 1) (pa_cons (pv 3) pa_nil))) pa_nil))))
      (pss_cons (ps_set (i := 6) sc_law.nd rfl (Or.inl rfl) (pe_lst (pa_cons (pv 4) (pa_cons (pe_fn G_law_met (hr.mono (by decide)) rfl (pa_cons (pv 1) (pa_cons (pv 3) (pa_cons (pv 4) pa_nil)))) (pa_cons (pe_fn G_law_other_piece (hr.mono (by decide)) rfl (pa_cons (pv 1) (pa_cons (pv 4) pa_nil))) pa_nil)))))
      (pss_cons (ps_expr (pe_bm PySem.F.plainAttrs_list PySem.F.slot_list_append PySem.F.type_list_append mt_append (pv 6) (pa_cons (pe_fn G_law_other_piece (hr.mono (by decide)) rfl (pa_cons (pv 1) (pa_cons (pe_ix ix_list (pv 6) pe_int (fun _ _ => rfl)) pa_nil))) pa_nil)))
      (pss_cons (ps_set (i := 7) sc_law.nd rfl (Or.inl rfl) (pe_lst pa_nil))
      (pss_cons (ps_for PassesOwn.never rfl (pi_list (pv 5)) (pg_name (i := 8) sc_law.nd rfl (Or.inr rfl)) (pss_one (ps_set (i := 7) sc_law.nd rfl (Or.inl rfl) (pe_op op_cat (pv 7) (pe_lc (N' := ["other", "one"]) (js := [none, some 8]) rfl (capOk (N := ["script", "bag", "turn", "wish", "piece", "wishes", "pieces", "pairs", "one", "other", "found"]) (outer := defScope s_law) (by decide +kernel)) (pi_list (pv 6)) (fun _ _ _ _ _ => (pg_name (i := 0) (show List.Nodup (["other", "one"] : List Str) by decide +kernel) rfl (Or.inl rfl))) (fun _ _ _ _ _ => pifs_nil) (fun _ _ _ _ _ => (pe_tup (pa_cons (pv 1) (pa_cons (pv 0) pa_nil)))))))))
      (pss_one (ps_for PassesOwn.never rfl (pi_list (pe_op op_cat (pv 7) (pe_lst (pa_cons (pe_tup (pa_cons (pv 3) (pa_cons (pv 4) pa_nil))) pa_nil)))) (pg_tup rfl (pgs_cons (pg_name (i := 8) sc_law.nd rfl (Or.inr rfl)) (pgs_cons (pg_name (i := 9) sc_law.nd rfl (Or.inl rfl)) pgs_nil))) (pss_cons (ps_set (i := 10) sc_law.nd rfl (Or.inl rfl) (pe_fn G_wants (hr.mono (by decide)) rfl (pa_cons (pv 8) (pa_cons (pv 9) pa_nil))))
      (pss_one (ps_if (PW.pt (pw_or (pt_not (pt_val (pe_callB (call_isinst (n := "")) rfl B.isinstance_ bt_isinstance (pa_cons (pv 10) (pa_cons (pe_bltn (v := .ty "bool") rfl B.bool_ bt_bool rfl) pa_nil))))) (pw_or1 (pt_cmpR op_ne (pv 10) (pe_fn G_law_wants (hr.mono (by decide)) rfl (pa_cons (pv 8) (pa_cons (pv 9) pa_nil))) (nomark _))))) (pss_one (ps_ret pe_bl)) pss_nil))))))))))))
      (pss_one (ps_ret pe_bl)))), ?_⟩
  refine ⟨_, rfl, a, ns, rfl, hS, h63, fun b g l H1 B1 S1 nb ng => ?_⟩
  refine ⟨8, rfl, by decide, by decide, for_range (n := 8) (fun i σ H' => (∃ y2 y3 y4 y5 y6 y7 y8 y9 y10, σ = [some (.ref a), some (.ref b), y2, y3, y4, y5, y6, y7, y8, y9, y10]) ∧ Bag H' b g l (1001 * (i : Int))) ?_ ?_ ?_⟩
  · exact ⟨⟨none, none, none, none, none, none, none, none, none, rfl⟩, B1.mono (by decide)⟩
  · rintro i σ H2 hi ⟨⟨y2, y3, y4, y5, y6, y7, y8, y9, y10, rfl⟩, B2⟩
    refine ⟨_, rfl, b, g, l, _, rfl, B2, by omega, fun r wa pa w p H3 er W3 wd P3 pd B3 S3 => ?_⟩
    refine ⟨r, _, rfl, SqT.of er, rfl, _, _, rfl, _, _, rfl, rfl, ?_⟩
    refine ⟨_, rfl, _, rfl, _, rfl, b, g, l, _, wa, w, rfl, B3, by omega, W3, wd, fun wb w2 H4 W4b wd2 B4 S4 => ?_⟩
    have W4 := W3.sameB B3 S4
    have P4 := P3.sameB B3 S4
    refine ⟨(by show 2 ≤ sizeLine; decide), fun wl hwl => ?_⟩
    have s5 := same_new hwl (.lst [V.ref wa, V.ref wb])
    obtain ⟨wlb, wlg, _⟩ := B4.free hwl
    have ewl : (upd H4 wl (.lst [V.ref wa, V.ref wb])) wl = some (.lst [V.ref wa, V.ref wb]) := upd_same
    have B5 := B4.same s5
    have W5 := W4.same s5
    have W5b := W4b.same s5
    have P5 := P4.same s5
    generalize upd H4 wl (.lst [V.ref wa, V.ref wb]) = H5 at *
    refine ⟨_, rfl, _, rfl, _, rfl, _, rfl, b, g, l, _, wa, pa, w, p, rfl, B5, by omega, W5, wd, P5, pd, fun pb p2 H6 P6b pd2 B6 S6 => ?_⟩
    have W6 := W5.sameB B5 S6
    have W6b := W5b.sameB B5 S6
    have P6 := P5.sameB B5 S6
    have e6 := S6 _ _ ewl wlb wlg
    refine ⟨_, rfl, _, rfl, b, g, l, _, pa, p, rfl, B6, by omega, P6, pd, fun pc p3 H7 P7c pd3 B7 S7 => ?_⟩
    have W7 := W6.sameB B6 S7
    have W7b := W6b.sameB B6 S7
    have P7 := P6.sameB B6 S7
    have P7b := P6b.sameB B6 S7
    have e7 := S7 _ _ e6 wlb wlg
    refine ⟨(by show 3 ≤ sizeLine; decide), fun pl hpl => ?_⟩
    have s8 := same_new hpl (.lst [V.ref pa, V.ref pb, V.ref pc])
    obtain ⟨plb, plg, pll⟩ := B7.free hpl
    have epl : (upd H7 pl (.lst [V.ref pa, V.ref pb, V.ref pc])) pl = some (.lst [V.ref pa, V.ref pb, V.ref pc]) := upd_same
    have B8 := B7.same s8
    have W8 := W7.same s8
    have W8b := W7b.same s8
    have P8 := P7.same s8
    have P8b := P7b.same s8
    have P8c := P7c.same s8
    have e8 := s8 _ _ e7
    have wlpl : wl ≠ pl := fun e => by rw [e] at e7; rw [hpl] at e7; cases e7
    generalize upd H7 pl (.lst [V.ref pa, V.ref pb, V.ref pc]) = H8 at *
    refine ⟨_, rfl, .inl ⟨rfl, _, SqL.of epl⟩, _, rfl, _, rfl, pl, _, 1, _, rfl, rfl, SqL.of epl, rfl, b, g, l, _, pb, p2, rfl, B8, by omega, P8b, pd2, fun pe p4 H9 P9e pd4 B9 S9 => ?_⟩
    have W9 := W8.sameB B8 S9
    have W9b := W8b.sameB B8 S9
    have P9 := P8.sameB B8 S9
    have P9b := P8b.sameB B8 S9
    have P9c := P8c.sameB B8 S9
    have e9 := S9 _ _ e8 wlb wlg
    have epl9 := S9 _ _ epl plb plg
    refine ⟨pl, _, _, rfl, rfl, epl9, (by show 3 < sizeLine; decide), ?_⟩
    have tl := tups_lst (o := .lst ([V.ref pa, V.ref pb, V.ref pc] ++ [V.ref pe])) epl9
    have epl10 : (upd H9 pl (.lst ([V.ref pa, V.ref pb, V.ref pc] ++ [V.ref pe]))) pl = some (.lst [V.ref pa, V.ref pb, V.ref pc, V.ref pe]) := upd_same
    have e10 : (upd H9 pl (.lst ([V.ref pa, V.ref pb, V.ref pc] ++ [V.ref pe]))) wl = some (.lst [V.ref wa, V.ref wb]) := by rw [upd_ne wlpl]; exact e9
    have B10 := B9.off (o := .lst ([V.ref pa, V.ref pb, V.ref pc] ++ [V.ref pe])) plb plg pll
    have Wa := W9.keep tl
    have Wb := W9b.keep tl
    have Pa := P9.keep tl
    have Pb := P9b.keep tl
    have Pc := P9c.keep tl
    have Pe := P9e.keep tl
    generalize upd H9 pl (.lst ([V.ref pa, V.ref pb, V.ref pc] ++ [V.ref pe])) = H10 at *
    refine ⟨sz0, fun pr0 hpr0 => ?_⟩
    have s11 := same_new hpr0 (.lst [])
    have e11 : (upd H10 pr0 (.lst [])) pr0 = some (.lst []) := upd_same
    generalize upd H10 pr0 (.lst []) = H11 at *
    have ewl11 := s11 _ _ e10
    have epl11 := s11 _ _ epl10
    have wgood : ∀ (j : Nat) (x : V), [V.ref wa, V.ref wb][j]? = some x → ∃ o w, x = .ref o ∧ WishAt H11 o w ∧ WDrawn w := fun j x hx => by
      match j, hx with
      | 0, hx => exact ⟨wa, w, (Option.some.inj hx).symm, Wa.same s11, wd⟩
      | 1, hx => exact ⟨wb, w2, (Option.some.inj hx).symm, Wb.same s11, wd2⟩
      | k + 2, hx => simp at hx
    have pgood : ∀ (j : Nat) (x : V), [V.ref pa, V.ref pb, V.ref pc, V.ref pe][j]? = some x → ∃ o p, x = .ref o ∧ PieceAt H11 o p ∧ PDrawn p := fun j x hx => by
      match j, hx with
      | 0, hx => exact ⟨pa, p, (Option.some.inj hx).symm, Pa.same s11, pd⟩
      | 1, hx => exact ⟨pb, p2, (Option.some.inj hx).symm, Pb.same s11, pd2⟩
      | 2, hx => exact ⟨pc, p3, (Option.some.inj hx).symm, Pc.same s11, pd3⟩
      | 3, hx => exact ⟨pe, p4, (Option.some.inj hx).symm, Pe.same s11, pd4⟩
      | k + 4, hx => simp at hx
    refine ⟨_, rfl, wl, rfl, ⟨_, SqL.of ewl11⟩, for_list (K := K) (a := wl) (xs := [V.ref wa, V.ref wb]) (fun j σ H' => ∃ (pr : Addr) (z8 : Option V) (xs : List (Addr × Addr × Addr)), σ = [some (.ref a), some (.ref b), some (.int (0 + (i : Int))), some (.ref wa), some (.ref pa), some (.ref wl), some (.ref pl), some (.ref pr), z8, y9, y10] ∧ Same H11 H' ∧ H' pr = some (.lst (xs.map fun x => V.ref x.1)) ∧ xs.length ≤ 4 * j ∧ ∀ x ∈ xs, GoodPair H' x) ⟨pr0, _, [], rfl, Same.refl _, e11, Nat.le_refl _, fun x hx => by simp at hx⟩ (fun j σ H' _ ⟨_, _, _, _, z, _⟩ => SqL.of (z _ _ ewl11)) ?_ ?_⟩
    · rintro j x σ H12 hx ⟨pr, z8, xs, rfl, s12, e12, l12, g12⟩
      obtain ⟨o1, w3, rfl, Wo, wd3⟩ := wgood j x hx
      refine ⟨_, rfl, _, rfl, pl, rfl, ⟨_, SqL.of (s12 _ _ epl11)⟩, fun q1 hq1 => ?_⟩
      refine lc_list (xs := [V.ref pa, V.ref pb, V.ref pc, V.ref pe]) (fun k σ' ys H' => (∃ v1, σ' = [v1, some (.ref o1)]) ∧ Same H12 H' ∧ H' q1 = some (.lst ys) ∧ ∃ zs : List (Addr × Addr × Addr), ys = zs.map (fun x => V.ref x.1) ∧ zs.length = k ∧ ∀ x ∈ zs, GoodPair H' x) ⟨⟨none, rfl⟩, same_new hq1 _, upd_same, [], rfl, rfl, fun x hx => by simp at hx⟩ ?_ ?_ ?_
      · rintro k σ' ys H13 hk ⟨_, s13, h1, zs, rfl, h3, _⟩
        exact ⟨SqL.of (s13 _ _ (s12 _ _ epl11)), h1, by rw [List.length_map, h3]; simp at hk; exact small1000 (by omega)⟩
      · rintro k y σ' ys H13 N hy ⟨⟨v1, rfl⟩, s13, h1, zs, rfl, h3, h4⟩ hN
        obtain ⟨o2, p5, rfl, Po, pd5⟩ := pgood k y hy
        refine ⟨_, rfl, _, rfl, (by show 2 ≤ sizeLine; decide), fun t ht => ?_⟩
        have st := same_new ht (.tup [V.ref o1, V.ref o2])
        have h1' := st _ _ h1
        have tl := tups_lst (o := .lst (zs.map (fun x => V.ref x.1) ++ [V.ref t])) h1'
        refine ⟨h1', hN _ _ _ ⟨⟨_, rfl⟩, upd_off (s13.trans st) hq1, upd_same, zs ++ [(t, o1, o2)], ?_, ?_, fun x hx => ?_⟩⟩
        · rw [List.map_append]; rfl
        · rw [List.length_append, h3]; rfl
        · rcases List.mem_append.mp hx with z | z
          · exact ((h4 x z).keep st.tups).keep tl
          · rw [List.mem_singleton.mp z]
            have t13 := s12.trans (s13.trans st)
            exact ⟨tl _ _ upd_same, ⟨w3, (Wo.same t13).keep tl, wd3⟩, ⟨p5, (Po.same t13).keep tl, pd5⟩⟩
      · rintro σ' ys H13 ⟨_, s13, h1, zs, rfl, h3, h4⟩
        have e13 := s13 _ _ e12
        simp only [List.length_cons, List.length_nil] at h3
        refine ⟨pr, q1, _, _, rfl, rfl, e13, h1, (by rw [List.length_map, List.length_map]; have hj2 := (List.getElem?_eq_some_iff.mp hx).1; simp at hj2; exact small (by omega)), fun pr2 hpr2 => ?_⟩
        have s14 := same_new hpr2 (.lst (xs.map (fun x => V.ref x.1) ++ zs.map fun x => V.ref x.1))
        refine ⟨pr2, _, xs ++ zs, rfl, s12.trans (s13.trans s14), ?_, ?_, fun x hx => ?_⟩
        · rw [upd_same, List.map_append]
        · rw [List.length_append]; omega
        · rcases List.mem_append.mp hx with z | z
          · exact ((g12 x z).keep s13.tups).keep s14.tups
          · exact (h4 x z).keep s14.tups
    · rintro σ H12 ⟨pr, z8, xs, rfl, s12, e12, l12, g12⟩
      simp only [List.length_cons, List.length_nil] at l12
      refine ⟨_, rfl, _, rfl, _, rfl, (by show 2 ≤ sizeLine; decide), fun t ht => ?_⟩
      have s13 := same_new ht (.tup [V.ref wa, V.ref pa])
      have et : (upd H12 t (.tup [V.ref wa, V.ref pa])) t = some (.tup [V.ref wa, V.ref pa]) := upd_same
      have e13 := s13 _ _ e12
      generalize upd H12 t (.tup [V.ref wa, V.ref pa]) = H13 at *
      refine ⟨(by show 1 ≤ sizeLine; decide), fun l1 hl1 => ?_⟩
      have s14 := same_new hl1 (.lst [V.ref t])
      have e14 : (upd H13 l1 (.lst [V.ref t])) l1 = some (.lst [V.ref t]) := upd_same
      have e13 := s14 _ _ e13
      have et := s14 _ _ et
      generalize upd H13 l1 (.lst [V.ref t]) = H14 at *
      refine ⟨pr, l1, _, _, rfl, rfl, e13, e14, (by rw [List.length_map]; exact small (by simp; omega)), fun l2 hl2 => ?_⟩
      have s15 := same_new hl2 (.lst (xs.map (fun x => V.ref x.1) ++ [V.ref t]))
      have e15 : (upd H14 l2 (.lst (xs.map (fun x => V.ref x.1) ++ [V.ref t]))) l2 = some (.lst ((xs ++ [(t, wa, pa)]).map fun x => V.ref x.1)) := by rw [upd_same, List.map_append]; rfl
      have t15 := s12.trans (s13.trans (s14.trans s15))
      have g15 : ∀ x ∈ xs ++ [(t, wa, pa)], GoodPair (upd H14 l2 (.lst (xs.map (fun x => V.ref x.1) ++ [V.ref t]))) x := fun x hx => by
        rcases List.mem_append.mp hx with z | z
        · exact (g12 x z).keep (s13.trans (s14.trans s15)).tups
        · rw [List.mem_singleton.mp z]
          exact ⟨s15 _ _ et, ⟨w, (Wa.same s11).same t15, wd⟩, ⟨p, (Pa.same s11).same t15, pd⟩⟩
      generalize upd H14 l2 (.lst (xs.map (fun x => V.ref x.1) ++ [V.ref t])) = H15 at *
      refine ⟨l2, rfl, ⟨_, SqL.of e15⟩, for_list (K := K) (a := l2) (xs := (xs ++ [(t, wa, pa)]).map fun x => V.ref x.1) (fun j σ H' => (∃ z8 z9 z10, σ = [some (.ref a), some (.ref b), some (.int (0 + (i : Int))), some (.ref wa), some (.ref pa), some (.ref wl), some (.ref pl), some (.ref pr), z8, z9, z10]) ∧ Same H15 H') ⟨⟨_, _, _, rfl⟩, Same.refl _⟩ (fun j σ H' _ ⟨_, z⟩ => SqL.of (z _ _ e15)) ?_ ?_⟩
      · rintro j x σ H16 hx ⟨⟨z8', z9', z10', rfl⟩, s16⟩
        rw [List.getElem?_map] at hx
        cases ex : (xs ++ [(t, wa, pa)])[j]? with
        | none => rw [ex] at hx; cases hx
        | some X1 =>
          rw [ex] at hx
          obtain rfl : V.ref X1.1 = x := Option.some.inj hx
          obtain ⟨eX, ⟨w5, W5', wd5⟩, p5, P5', pd5⟩ := g15 X1 (List.mem_of_getElem? ex)
          refine ⟨X1.1, _, rfl, SqT.of (s16 _ _ eX), rfl, _, _, rfl, _, _, rfl, rfl, ?_⟩
          refine ⟨_, rfl, _, rfl, X1.2.1, X1.2.2, w5, p5, rfl, W5'.same s16, P5'.same s16, wd5.wok, pd5.pok, fun H17 s17 => ?_⟩
          have t17 := s16.trans s17
          refine ⟨_, rfl, _, "bool", "bool", true, rfl, .bl _, rfl, _, rfl, iteF ⟨_, rfl, _, rfl, _, rfl, X1.2.1, X1.2.2, w5, p5, rfl, W5'.same t17, P5'.same t17, pd5.pok, fun H18 s18 => ⟨rfl, _, rfl, ite2 (fun h => absurd h (by simp)) (fun _ => ?_)⟩⟩⟩
          exact ⟨⟨_, _, _, rfl⟩, t17.trans s18⟩
      · rintro σ H16 ⟨⟨z8', z9', z10', rfl⟩, s16⟩
        exact ⟨⟨_, _, _, _, _, _, _, _, _, rfl⟩, (B10.same (s11.trans (t15.trans s16))).mono (by omega)⟩
  · rintro σ H2 ⟨_, B2⟩
    exact q H2

end
theorem all_mk {l : PySem.W.OpenLaw} {w : World} {K : PySem.W.Frag} {h : Heap} {mg : Str → Option Value} {fa f1 f2 f3 f4 f5 f6 f7 f8 f9 f10 f11 f12 f13 f14 f15 f16 f17 f18 f19 f20 f21 f22 f23 f24 f25 f26 f27 f28 f29 : Addr} (X : K.In h) (G : h.Ns mainGlobals mg) (hfa : mg "law" = some (.ref fa))
    {od1 od2 od3 od4 od5 od6 od7 od8 od9 od10 od11 od12 od13 od14 od15 od16 od17 od18 od19 od20 od21 od22 od23 od24 od25 od26 od27 od28 od29 an1 an2 an3 an4 an5 an6 an7 an8 an9 an10 an11 an12 an13 an14 an15 an16 an17 an18 an19 an20 an21 an22 an23 an24 an25 an26 an27 an28 an29 : Option Addr} {sl1 sl2 sl3 sl4 sl5 sl6 sl7 sl8 sl9 sl10 sl11 sl12 sl13 sl14 sl15 sl16 sl17 sl18 sl19 sl20 sl21 sl22 sl23 sl24 sl25 sl26 sl27 sl28 sl29 : Array (Option Value)} {oc1 oc2 oc3 oc4 oc5 oc6 oc7 oc8 oc9 oc10 oc11 oc12 oc13 oc14 oc15 oc16 oc17 oc18 oc19 oc20 oc21 oc22 oc23 oc24 oc25 oc26 oc27 oc28 oc29 kV1 kV2 kV3 kV4 kV5 kV6 kV7 kV8 kV9 kV10 kV11 kV12 kV13 kV14 kV15 kV16 kV17 kV18 kV19 kV20 kV21 kV22 kV23 kV24 kV25 kV26 kV27 kV28 kV29 dc1 dc2 dc3 dc4 dc5 dc6 dc7 dc8 dc9 dc10 dc11 dc12 dc13 dc14 dc15 dc16 dc17 dc18 dc19 dc20 dc21 dc22 dc23 dc24 dc25 dc26 dc27 dc28 dc29 pm1 pm2 pm3 pm4 pm5 pm6 pm7 pm8 pm9 pm10 pm11 pm12 pm13 pm14 pm15 pm16 pm17 pm18 pm19 pm20 pm21 pm22 pm23 pm24 pm25 pm26 pm27 pm28 pm29 cd1 cd2 cd3 cd4 cd5 cd6 cd7 cd8 cd9 cd10 cd11 cd12 cd13 cd14 cd15 cd16 cd17 cd18 cd19 cd20 cd21 cd22 cd23 cd24 cd25 cd26 cd27 cd28 cd29 ct1 ct2 ct3 ct4 ct5 ct6 ct7 ct8 ct9 ct10 ct11 ct12 ct13 ct14 ct15 ct16 ct17 ct18 ct19 ct20 ct21 ct22 ct23 ct24 ct25 ct26 ct27 ct28 ct29 : Value}
    (a1 : PySem.W.nsIn K mainGlobals "is_whole" = some (some (.ref f1))) (l1 : K.lookup f1 = some ⟨oc1, od1, .func (PySem.W.fnOf "is_whole" "is_whole" (defArgs s_is_whole) (defBody s_is_whole) (defScope s_is_whole) .none kV1 dc1 pm1 an1 cd1 ct1), sl1⟩) (c1 : PySem.W.codeIn K cd1 "is_whole" = true) (k1 : PySem.W.keepIn K (.ref f1) = true)
    (a2 : PySem.W.nsIn K mainGlobals "is_end" = some (some (.ref f2))) (l2 : K.lookup f2 = some ⟨oc2, od2, .func (PySem.W.fnOf "is_end" "is_end" (defArgs s_is_end) (defBody s_is_end) (defScope s_is_end) .none kV2 dc2 pm2 an2 cd2 ct2), sl2⟩) (c2 : PySem.W.codeIn K cd2 "is_end" = true) (k2 : PySem.W.keepIn K (.ref f2) = true)
    (a3 : PySem.W.nsIn K mainGlobals "is_span" = some (some (.ref f3))) (l3 : K.lookup f3 = some ⟨oc3, od3, .func (PySem.W.fnOf "is_span" "is_span" (defArgs s_is_span) (defBody s_is_span) (defScope s_is_span) .none kV3 dc3 pm3 an3 cd3 ct3), sl3⟩) (c3 : PySem.W.codeIn K cd3 "is_span" = true) (k3 : PySem.W.keepIn K (.ref f3) = true)
    (a4 : PySem.W.nsIn K mainGlobals "span_holds" = some (some (.ref f4))) (l4 : K.lookup f4 = some ⟨oc4, od4, .func (PySem.W.fnOf "span_holds" "span_holds" (defArgs s_span_holds) (defBody s_span_holds) (defScope s_span_holds) .none kV4 dc4 pm4 an4 cd4 ct4), sl4⟩) (c4 : PySem.W.codeIn K cd4 "span_holds" = true) (k4 : PySem.W.keepIn K (.ref f4) = true)
    (a5 : PySem.W.nsIn K mainGlobals "is_field" = some (some (.ref f5))) (l5 : K.lookup f5 = some ⟨oc5, od5, .func (PySem.W.fnOf "is_field" "is_field" (defArgs s_is_field) (defBody s_is_field) (defScope s_is_field) .none kV5 dc5 pm5 an5 cd5 ct5), sl5⟩) (c5 : PySem.W.codeIn K cd5 "is_field" = true) (k5 : PySem.W.keepIn K (.ref f5) = true)
    (a6 : PySem.W.nsIn K mainGlobals "is_wish_part" = some (some (.ref f6))) (l6 : K.lookup f6 = some ⟨oc6, od6, .func (PySem.W.fnOf "is_wish_part" "is_wish_part" (defArgs s_is_wish_part) (defBody s_is_wish_part) (defScope s_is_wish_part) .none kV6 dc6 pm6 an6 cd6 ct6), sl6⟩) (c6 : PySem.W.codeIn K cd6 "is_wish_part" = true) (k6 : PySem.W.keepIn K (.ref f6) = true)
    (a7 : PySem.W.nsIn K mainGlobals "is_piece_part" = some (some (.ref f7))) (l7 : K.lookup f7 = some ⟨oc7, od7, .func (PySem.W.fnOf "is_piece_part" "is_piece_part" (defArgs s_is_piece_part) (defBody s_is_piece_part) (defScope s_is_piece_part) .none kV7 dc7 pm7 an7 cd7 ct7), sl7⟩) (c7 : PySem.W.codeIn K cd7 "is_piece_part" = true) (k7 : PySem.W.keepIn K (.ref f7) = true)
    (a8 : PySem.W.nsIn K mainGlobals "fields_ascend" = some (some (.ref f8))) (l8 : K.lookup f8 = some ⟨oc8, od8, .func (PySem.W.fnOf "fields_ascend" "fields_ascend" (defArgs s_fields_ascend) (defBody s_fields_ascend) (defScope s_fields_ascend) .none kV8 dc8 pm8 an8 cd8 ct8), sl8⟩) (c8 : PySem.W.codeIn K cd8 "fields_ascend" = true) (k8 : PySem.W.keepIn K (.ref f8) = true)
    (a9 : PySem.W.nsIn K mainGlobals "is_wish" = some (some (.ref f9))) (l9 : K.lookup f9 = some ⟨oc9, od9, .func (PySem.W.fnOf "is_wish" "is_wish" (defArgs s_is_wish) (defBody s_is_wish) (defScope s_is_wish) .none kV9 dc9 pm9 an9 cd9 ct9), sl9⟩) (c9 : PySem.W.codeIn K cd9 "is_wish" = true) (k9 : PySem.W.keepIn K (.ref f9) = true)
    (a10 : PySem.W.nsIn K mainGlobals "is_piece" = some (some (.ref f10))) (l10 : K.lookup f10 = some ⟨oc10, od10, .func (PySem.W.fnOf "is_piece" "is_piece" (defArgs s_is_piece) (defBody s_is_piece) (defScope s_is_piece) .none kV10 dc10 pm10 an10 cd10 ct10), sl10⟩) (c10 : PySem.W.codeIn K cd10 "is_piece" = true) (k10 : PySem.W.keepIn K (.ref f10) = true)
    (a11 : PySem.W.nsIn K mainGlobals "check_wish" = some (some (.ref f11))) (l11 : K.lookup f11 = some ⟨oc11, od11, .func (PySem.W.fnOf "check_wish" "check_wish" (defArgs s_check_wish) (defBody s_check_wish) (defScope s_check_wish) .none kV11 dc11 pm11 an11 cd11 ct11), sl11⟩) (c11 : PySem.W.codeIn K cd11 "check_wish" = true) (k11 : PySem.W.keepIn K (.ref f11) = true)
    (a12 : PySem.W.nsIn K mainGlobals "check_piece" = some (some (.ref f12))) (l12 : K.lookup f12 = some ⟨oc12, od12, .func (PySem.W.fnOf "check_piece" "check_piece" (defArgs s_check_piece) (defBody s_check_piece) (defScope s_check_piece) .none kV12 dc12 pm12 an12 cd12 ct12), sl12⟩) (c12 : PySem.W.codeIn K cd12 "check_piece" = true) (k12 : PySem.W.keepIn K (.ref f12) = true)
    (a13 : PySem.W.nsIn K mainGlobals "wish_takes" = some (some (.ref f13))) (l13 : K.lookup f13 = some ⟨oc13, od13, .func (PySem.W.fnOf "wish_takes" "wish_takes" (defArgs s_wish_takes) (defBody s_wish_takes) (defScope s_wish_takes) .none kV13 dc13 pm13 an13 cd13 ct13), sl13⟩) (c13 : PySem.W.codeIn K cd13 "wish_takes" = true) (k13 : PySem.W.keepIn K (.ref f13) = true)
    (a14 : PySem.W.nsIn K mainGlobals "wants" = some (some (.ref f14))) (l14 : K.lookup f14 = some ⟨oc14, od14, .func (PySem.W.fnOf "wants" "wants" (defArgs s_wants) (defBody s_wants) (defScope s_wants) .none kV14 dc14 pm14 an14 cd14 ct14), sl14⟩) (c14 : PySem.W.codeIn K cd14 "wants" = true) (k14 : PySem.W.keepIn K (.ref f14) = true)
    (a15 : PySem.W.nsIn K mainGlobals "_law_bag" = some (some (.ref f15))) (l15 : K.lookup f15 = some ⟨oc15, od15, .func (PySem.W.fnOf "_law_bag" "_law_bag" (defArgs s_law_bag) (defBody s_law_bag) (defScope s_law_bag) .none kV15 dc15 pm15 an15 cd15 ct15), sl15⟩) (c15 : PySem.W.codeIn K cd15 "_law_bag" = true) (k15 : PySem.W.keepIn K (.ref f15) = true)
    (a16 : PySem.W.nsIn K mainGlobals "_law_draw" = some (some (.ref f16))) (l16 : K.lookup f16 = some ⟨oc16, od16, .func (PySem.W.fnOf "_law_draw" "_law_draw" (defArgs s_law_draw) (defBody s_law_draw) (defScope s_law_draw) .none kV16 dc16 pm16 an16 cd16 ct16), sl16⟩) (c16 : PySem.W.codeIn K cd16 "_law_draw" = true) (k16 : PySem.W.keepIn K (.ref f16) = true)
    (a17 : PySem.W.nsIn K mainGlobals "_law_number" = some (some (.ref f17))) (l17 : K.lookup f17 = some ⟨oc17, od17, .func (PySem.W.fnOf "_law_number" "_law_number" (defArgs s_law_number) (defBody s_law_number) (defScope s_law_number) .none kV17 dc17 pm17 an17 cd17 ct17), sl17⟩) (c17 : PySem.W.codeIn K cd17 "_law_number" = true) (k17 : PySem.W.keepIn K (.ref f17) = true)
    (a18 : PySem.W.nsIn K mainGlobals "_law_held" = some (some (.ref f18))) (l18 : K.lookup f18 = some ⟨oc18, od18, .func (PySem.W.fnOf "_law_held" "_law_held" (defArgs s_law_held) (defBody s_law_held) (defScope s_law_held) .none kV18 dc18 pm18 an18 cd18 ct18), sl18⟩) (c18 : PySem.W.codeIn K cd18 "_law_held" = true) (k18 : PySem.W.keepIn K (.ref f18) = true)
    (a19 : PySem.W.nsIn K mainGlobals "_law_span" = some (some (.ref f19))) (l19 : K.lookup f19 = some ⟨oc19, od19, .func (PySem.W.fnOf "_law_span" "_law_span" (defArgs s_law_span) (defBody s_law_span) (defScope s_law_span) .none kV19 dc19 pm19 an19 cd19 ct19), sl19⟩) (c19 : PySem.W.codeIn K cd19 "_law_span" = true) (k19 : PySem.W.keepIn K (.ref f19) = true)
    (a20 : PySem.W.nsIn K mainGlobals "_law_in" = some (some (.ref f20))) (l20 : K.lookup f20 = some ⟨oc20, od20, .func (PySem.W.fnOf "_law_in" "_law_in" (defArgs s_law_in) (defBody s_law_in) (defScope s_law_in) .none kV20 dc20 pm20 an20 cd20 ct20), sl20⟩) (c20 : PySem.W.codeIn K cd20 "_law_in" = true) (k20 : PySem.W.keepIn K (.ref f20) = true)
    (a21 : PySem.W.nsIn K mainGlobals "_law_field" = some (some (.ref f21))) (l21 : K.lookup f21 = some ⟨oc21, od21, .func (PySem.W.fnOf "_law_field" "_law_field" (defArgs s_law_field) (defBody s_law_field) (defScope s_law_field) .none kV21 dc21 pm21 an21 cd21 ct21), sl21⟩) (c21 : PySem.W.codeIn K cd21 "_law_field" = true) (k21 : PySem.W.keepIn K (.ref f21) = true)
    (a22 : PySem.W.nsIn K mainGlobals "_law_fields" = some (some (.ref f22))) (l22 : K.lookup f22 = some ⟨oc22, od22, .func (PySem.W.fnOf "_law_fields" "_law_fields" (defArgs s_law_fields) (defBody s_law_fields) (defScope s_law_fields) .none kV22 dc22 pm22 an22 cd22 ct22), sl22⟩) (c22 : PySem.W.codeIn K cd22 "_law_fields" = true) (k22 : PySem.W.keepIn K (.ref f22) = true)
    (a23 : PySem.W.nsIn K mainGlobals "_law_near" = some (some (.ref f23))) (l23 : K.lookup f23 = some ⟨oc23, od23, .func (PySem.W.fnOf "_law_near" "_law_near" (defArgs s_law_near) (defBody s_law_near) (defScope s_law_near) .none kV23 dc23 pm23 an23 cd23 ct23), sl23⟩) (c23 : PySem.W.codeIn K cd23 "_law_near" = true) (k23 : PySem.W.keepIn K (.ref f23) = true)
    (a24 : PySem.W.nsIn K mainGlobals "_law_wants" = some (some (.ref f24))) (l24 : K.lookup f24 = some ⟨oc24, od24, .func (PySem.W.fnOf "_law_wants" "_law_wants" (defArgs s_law_wants) (defBody s_law_wants) (defScope s_law_wants) .none kV24 dc24 pm24 an24 cd24 ct24), sl24⟩) (c24 : PySem.W.codeIn K cd24 "_law_wants" = true) (k24 : PySem.W.keepIn K (.ref f24) = true)
    (a25 : PySem.W.nsIn K mainGlobals "_law_pair" = some (some (.ref f25))) (l25 : K.lookup f25 = some ⟨oc25, od25, .func (PySem.W.fnOf "_law_pair" "_law_pair" (defArgs s_law_pair) (defBody s_law_pair) (defScope s_law_pair) .none kV25 dc25 pm25 an25 cd25 ct25), sl25⟩) (c25 : PySem.W.codeIn K cd25 "_law_pair" = true) (k25 : PySem.W.keepIn K (.ref f25) = true)
    (a26 : PySem.W.nsIn K mainGlobals "_law_met" = some (some (.ref f26))) (l26 : K.lookup f26 = some ⟨oc26, od26, .func (PySem.W.fnOf "_law_met" "_law_met" (defArgs s_law_met) (defBody s_law_met) (defScope s_law_met) .none kV26 dc26 pm26 an26 cd26 ct26), sl26⟩) (c26 : PySem.W.codeIn K cd26 "_law_met" = true) (k26 : PySem.W.keepIn K (.ref f26) = true)
    (a27 : PySem.W.nsIn K mainGlobals "_law_other_piece" = some (some (.ref f27))) (l27 : K.lookup f27 = some ⟨oc27, od27, .func (PySem.W.fnOf "_law_other_piece" "_law_other_piece" (defArgs s_law_other_piece) (defBody s_law_other_piece) (defScope s_law_other_piece) .none kV27 dc27 pm27 an27 cd27 ct27), sl27⟩) (c27 : PySem.W.codeIn K cd27 "_law_other_piece" = true) (k27 : PySem.W.keepIn K (.ref f27) = true)
    (a28 : PySem.W.nsIn K mainGlobals "_law_other_wish" = some (some (.ref f28))) (l28 : K.lookup f28 = some ⟨oc28, od28, .func (PySem.W.fnOf "_law_other_wish" "_law_other_wish" (defArgs s_law_other_wish) (defBody s_law_other_wish) (defScope s_law_other_wish) .none kV28 dc28 pm28 an28 cd28 ct28), sl28⟩) (c28 : PySem.W.codeIn K cd28 "_law_other_wish" = true) (k28 : PySem.W.keepIn K (.ref f28) = true)
    (a29 : PySem.W.nsIn K mainGlobals "law" = some (some (.ref f29))) (l29 : K.lookup f29 = some ⟨oc29, od29, .func (PySem.W.fnOf "law" "law" (defArgs s_law) (defBody s_law) (defScope s_law) .none kV29 dc29 pm29 an29 cd29 ct29), sl29⟩) (c29 : PySem.W.codeIn K cd29 "law" = true) (k29 : PySem.W.keepIn K (.ref f29) = true)
    {t_MOST_LETTERS : Tok} (e_MOST_LETTERS : PySem.W.nsIn K mainGlobals "MOST_LETTERS" = some (some (.int 8 t_MOST_LETTERS)))
    (z_len : PySem.W.nsIn K mainGlobals "len" = some none)
    (z_range : PySem.W.nsIn K mainGlobals "range" = some none)
    (z_isinstance : PySem.W.nsIn K mainGlobals "isinstance" = some none)
    (z_int : PySem.W.nsIn K mainGlobals "int" = some none)
    (z_bool : PySem.W.nsIn K mainGlobals "bool" = some none)
    (z_tuple : PySem.W.nsIn K mainGlobals "tuple" = some none)
    (z_list : PySem.W.nsIn K mainGlobals "list" = some none)
    (z_max : PySem.W.nsIn K mainGlobals "max" = some none)
    (z_min : PySem.W.nsIn K mainGlobals "min" = some none)
    (z_all : PySem.W.nsIn K mainGlobals "all" = some none)
    (z_zip : PySem.W.nsIn K mainGlobals "zip" = some none)
    (z_str : PySem.W.nsIn K mainGlobals "str" = some none)
    (z_dict : PySem.W.nsIn K mainGlobals "dict" = some none)
    (z_sorted : PySem.W.nsIn K mainGlobals "sorted" = some none)
    (z_set : PySem.W.nsIn K mainGlobals "set" = some none)
    (z_any : PySem.W.nsIn K mainGlobals "any" = some none)
    (z_sum : PySem.W.nsIn K mainGlobals "sum" = some none)
    (z_enumerate : PySem.W.nsIn K mainGlobals "enumerate" = some none)
    (z_repr : PySem.W.nsIn K mainGlobals "repr" = some none)
    (z_ord : PySem.W.nsIn K mainGlobals "ord" = some none)
    (z_chr : PySem.W.nsIn K mainGlobals "chr" = some none)
    (z_abs : PySem.W.nsIn K mainGlobals "abs" = some none)
    (z_reversed : PySem.W.nsIn K mainGlobals "reversed" = some none)
    : ∃ fd : FuncData, (∀ (s : Shared) (v : Value), BindsTo s fd ⟨[v], []⟩ [("script", v)]) ∧ ∀ base : Heap, K.In base → base.Ns mainGlobals mg → FnOk l.prog w K mg base CX0 8 fa fd ["script"] (spLaw K) := by
  have e := hfa.symm.trans (PySem.W.mg_of X G a29)
  cases e
  have B : Bl mg := ⟨PySem.W.mg_none_of X G z_len, PySem.W.mg_none_of X G z_range, PySem.W.mg_none_of X G z_isinstance, PySem.W.mg_none_of X G z_int, PySem.W.mg_none_of X G z_bool, PySem.W.mg_none_of X G z_tuple, PySem.W.mg_none_of X G z_list, PySem.W.mg_none_of X G z_max, PySem.W.mg_none_of X G z_min, PySem.W.mg_none_of X G z_all, PySem.W.mg_none_of X G z_zip, PySem.W.mg_none_of X G z_str, PySem.W.mg_none_of X G z_dict, PySem.W.mg_none_of X G z_sorted, PySem.W.mg_none_of X G z_set, PySem.W.mg_none_of X G z_any, PySem.W.mg_none_of X G z_sum, PySem.W.mg_none_of X G z_enumerate, PySem.W.mg_none_of X G z_repr, PySem.W.mg_none_of X G z_ord, PySem.W.mg_none_of X G z_chr, PySem.W.mg_none_of X G z_abs, PySem.W.mg_none_of X G z_reversed⟩
  refine ⟨PySem.W.fnOf "law" "law" (defArgs s_law) (defBody s_law) (defScope s_law) .none kV29 dc29 pm29 an29 cd29 ct29, fun s v => .of_eq rfl, fun base _ _ => ?_⟩
  have F1 := fun_mk (st := s_is_whole) l1 c1 k1
  have b1 := F1.binds (ps := ["thing"]) fun _ _ _ _ _ _ us hl => match us, hl with | [_], _ => rfl
  have G_is_whole : FnH l.prog w K mg base 1 "is_whole" ["thing"] (spWhole K) := ⟨_, _, ok_is_whole F1 B (PySem.W.mg_of X G e_MOST_LETTERS) , b1, k1, PySem.W.mg_of X G a1⟩
  have F2 := fun_mk (st := s_is_end) l2 c2 k2
  have b2 := F2.binds (ps := ["thing"]) fun _ _ _ _ _ _ us hl => match us, hl with | [_], _ => rfl
  have G_is_end : FnH l.prog w K mg base 2 "is_end" ["thing"] (spEnd K) := ⟨_, _, ok_is_end F2 B (PySem.W.mg_of X G e_MOST_LETTERS) G_is_whole, b2, k2, PySem.W.mg_of X G a2⟩
  have F3 := fun_mk (st := s_is_span) l3 c3 k3
  have b3 := F3.binds (ps := ["thing"]) fun _ _ _ _ _ _ us hl => match us, hl with | [_], _ => rfl
  have G_is_span : FnH l.prog w K mg base 3 "is_span" ["thing"] (spIsSpan K) := ⟨_, _, ok_is_span F3 B (PySem.W.mg_of X G e_MOST_LETTERS) G_is_end, b3, k3, PySem.W.mg_of X G a3⟩
  have F4 := fun_mk (st := s_span_holds) l4 c4 k4
  have b4 := F4.binds (ps := ["span", "number"]) fun _ _ _ _ _ _ us hl => match us, hl with | [_, _], _ => rfl
  have G_span_holds : FnH l.prog w K mg base 1 "span_holds" ["span", "number"] (spIn) := ⟨_, _, ok_span_holds F4 B (PySem.W.mg_of X G e_MOST_LETTERS) , b4, k4, PySem.W.mg_of X G a4⟩
  have F5 := fun_mk (st := s_is_field) l5 c5 k5
  have b5 := F5.binds (ps := ["thing"]) fun _ _ _ _ _ _ us hl => match us, hl with | [_], _ => rfl
  have G_is_field : FnH l.prog w K mg base 1 "is_field" ["thing"] (spField) := ⟨_, _, ok_is_field F5 B (PySem.W.mg_of X G e_MOST_LETTERS) , b5, k5, PySem.W.mg_of X G a5⟩
  have F6 := fun_mk (st := s_is_wish_part) l6 c6 k6
  have b6 := F6.binds (ps := ["thing"]) fun _ _ _ _ _ _ us hl => match us, hl with | [_], _ => rfl
  have G_is_wish_part : FnH l.prog w K mg base 4 "is_wish_part" ["thing"] (spWishPart) := ⟨_, _, ok_is_wish_part F6 B (PySem.W.mg_of X G e_MOST_LETTERS) G_is_field G_is_span, b6, k6, PySem.W.mg_of X G a6⟩
  have F7 := fun_mk (st := s_is_piece_part) l7 c7 k7
  have b7 := F7.binds (ps := ["thing"]) fun _ _ _ _ _ _ us hl => match us, hl with | [_], _ => rfl
  have G_is_piece_part : FnH l.prog w K mg base 2 "is_piece_part" ["thing"] (spPiecePart) := ⟨_, _, ok_is_piece_part F7 B (PySem.W.mg_of X G e_MOST_LETTERS) G_is_field G_is_whole, b7, k7, PySem.W.mg_of X G a7⟩
  have F8 := fun_mk (st := s_fields_ascend) l8 c8 k8
  have b8 := F8.binds (ps := ["parts"]) fun _ _ _ _ _ _ us hl => match us, hl with | [_], _ => rfl
  have G_fields_ascend : FnH l.prog w K mg base 1 "fields_ascend" ["parts"] (spAscend) := ⟨_, _, ok_fields_ascend F8 B (PySem.W.mg_of X G e_MOST_LETTERS) , b8, k8, PySem.W.mg_of X G a8⟩
  have F9 := fun_mk (st := s_is_wish) l9 c9 k9
  have b9 := F9.binds (ps := ["thing"]) fun _ _ _ _ _ _ us hl => match us, hl with | [_], _ => rfl
  have G_is_wish : FnH l.prog w K mg base 5 "is_wish" ["thing"] (spIsWish) := ⟨_, _, ok_is_wish F9 B (PySem.W.mg_of X G e_MOST_LETTERS) G_fields_ascend G_is_wish_part, b9, k9, PySem.W.mg_of X G a9⟩
  have F10 := fun_mk (st := s_is_piece) l10 c10 k10
  have b10 := F10.binds (ps := ["thing"]) fun _ _ _ _ _ _ us hl => match us, hl with | [_], _ => rfl
  have G_is_piece : FnH l.prog w K mg base 3 "is_piece" ["thing"] (spIsPiece) := ⟨_, _, ok_is_piece F10 B (PySem.W.mg_of X G e_MOST_LETTERS) G_fields_ascend G_is_piece_part, b10, k10, PySem.W.mg_of X G a10⟩
  have F11 := fun_mk (st := s_check_wish) l11 c11 k11
  have b11 := F11.binds (ps := ["thing"]) fun _ _ _ _ _ _ us hl => match us, hl with | [_], _ => rfl
  have G_check_wish : FnH l.prog w K mg base 6 "check_wish" ["thing"] (spChkWish) := ⟨_, _, ok_check_wish F11 B (PySem.W.mg_of X G e_MOST_LETTERS) G_is_wish, b11, k11, PySem.W.mg_of X G a11⟩
  have F12 := fun_mk (st := s_check_piece) l12 c12 k12
  have b12 := F12.binds (ps := ["thing"]) fun _ _ _ _ _ _ us hl => match us, hl with | [_], _ => rfl
  have G_check_piece : FnH l.prog w K mg base 4 "check_piece" ["thing"] (spChkPiece) := ⟨_, _, ok_check_piece F12 B (PySem.W.mg_of X G e_MOST_LETTERS) G_is_piece, b12, k12, PySem.W.mg_of X G a12⟩
  have F13 := fun_mk (st := s_wish_takes) l13 c13 k13
  have b13 := F13.binds (ps := ["wish", "piece"]) fun _ _ _ _ _ _ us hl => match us, hl with | [_, _], _ => rfl
  have G_wish_takes : FnH l.prog w K mg base 2 "wish_takes" ["wish", "piece"] (spTakes) := ⟨_, _, ok_wish_takes F13 B (PySem.W.mg_of X G e_MOST_LETTERS) G_span_holds, b13, k13, PySem.W.mg_of X G a13⟩
  have F14 := fun_mk (st := s_wants) l14 c14 k14
  have b14 := F14.binds (ps := ["wish", "piece"]) fun _ _ _ _ _ _ us hl => match us, hl with | [_, _], _ => rfl
  have G_wants : FnH l.prog w K mg base 7 "wants" ["wish", "piece"] (spWants) := ⟨_, _, ok_wants F14 B (PySem.W.mg_of X G e_MOST_LETTERS) G_check_wish G_check_piece G_wish_takes, b14, k14, PySem.W.mg_of X G a14⟩
  have F15 := fun_mk (st := s_law_bag) l15 c15 k15
  have b15 := F15.binds (ps := ["script"]) fun _ _ _ _ _ _ us hl => match us, hl with | [_], _ => rfl
  have G_law_bag : FnH l.prog w K mg base 1 "_law_bag" ["script"] (spBag K) := ⟨_, _, ok_law_bag F15 B (PySem.W.mg_of X G e_MOST_LETTERS) , b15, k15, PySem.W.mg_of X G a15⟩
  have F16 := fun_mk (st := s_law_draw) l16 c16 k16
  have b16 := F16.binds (ps := ["bag", "many"]) fun _ _ _ _ _ _ us hl => match us, hl with | [_, _], _ => rfl
  have G_law_draw : FnH l.prog w K mg base 1 "_law_draw" ["bag", "many"] (spDraw) := ⟨_, _, ok_law_draw F16 B (PySem.W.mg_of X G e_MOST_LETTERS) , b16, k16, PySem.W.mg_of X G a16⟩
  have F17 := fun_mk (st := s_law_number) l17 c17 k17
  have b17 := F17.binds (ps := ["bag"]) fun _ _ _ _ _ _ us hl => match us, hl with | [_], _ => rfl
  have G_law_number : FnH l.prog w K mg base 2 "_law_number" ["bag"] (spNumber) := ⟨_, _, ok_law_number F17 B (PySem.W.mg_of X G e_MOST_LETTERS) G_law_draw, b17, k17, PySem.W.mg_of X G a17⟩
  have F18 := fun_mk (st := s_law_held) l18 c18 k18
  have b18 := F18.binds (ps := ["number"]) fun _ _ _ _ _ _ us hl => match us, hl with | [_], _ => rfl
  have G_law_held : FnH l.prog w K mg base 1 "_law_held" ["number"] (spHeld) := ⟨_, _, ok_law_held F18 B (PySem.W.mg_of X G e_MOST_LETTERS) , b18, k18, PySem.W.mg_of X G a18⟩
  have F19 := fun_mk (st := s_law_span) l19 c19 k19
  have b19 := F19.binds (ps := ["bag"]) fun _ _ _ _ _ _ us hl => match us, hl with | [_], _ => rfl
  have G_law_span : FnH l.prog w K mg base 3 "_law_span" ["bag"] (spSpan) := ⟨_, _, ok_law_span F19 B (PySem.W.mg_of X G e_MOST_LETTERS) G_law_draw G_law_number G_law_held, b19, k19, PySem.W.mg_of X G a19⟩
  have F20 := fun_mk (st := s_law_in) l20 c20 k20
  have b20 := F20.binds (ps := ["span", "number"]) fun _ _ _ _ _ _ us hl => match us, hl with | [_, _], _ => rfl
  have G_law_in : FnH l.prog w K mg base 1 "_law_in" ["span", "number"] (spIn) := ⟨_, _, ok_law_in F20 B (PySem.W.mg_of X G e_MOST_LETTERS) , b20, k20, PySem.W.mg_of X G a20⟩
  have F21 := fun_mk (st := s_law_field) l21 c21 k21
  have b21 := F21.binds (ps := ["bag"]) fun _ _ _ _ _ _ us hl => match us, hl with | [_], _ => rfl
  have G_law_field : FnH l.prog w K mg base 2 "_law_field" ["bag"] (spLawField) := ⟨_, _, ok_law_field F21 B (PySem.W.mg_of X G e_MOST_LETTERS) G_law_draw, b21, k21, PySem.W.mg_of X G a21⟩
  have F22 := fun_mk (st := s_law_fields) l22 c22 k22
  have b22 := F22.binds (ps := ["bag", "most"]) fun _ _ _ _ _ _ us hl => match us, hl with | [_, _], _ => rfl
  have G_law_fields : FnH l.prog w K mg base 3 "_law_fields" ["bag", "most"] (spLawFields) := ⟨_, _, ok_law_fields F22 B (PySem.W.mg_of X G e_MOST_LETTERS) G_law_field G_law_draw, b22, k22, PySem.W.mg_of X G a22⟩
  have F23 := fun_mk (st := s_law_near) l23 c23 k23
  have b23 := F23.binds (ps := ["bag", "span"]) fun _ _ _ _ _ _ us hl => match us, hl with | [_, _], _ => rfl
  have G_law_near : FnH l.prog w K mg base 3 "_law_near" ["bag", "span"] (spLawNear) := ⟨_, _, ok_law_near F23 B (PySem.W.mg_of X G e_MOST_LETTERS) G_law_draw G_law_held G_law_number, b23, k23, PySem.W.mg_of X G a23⟩
  have F24 := fun_mk (st := s_law_wants) l24 c24 k24
  have b24 := F24.binds (ps := ["wish", "piece"]) fun _ _ _ _ _ _ us hl => match us, hl with | [_, _], _ => rfl
  have G_law_wants : FnH l.prog w K mg base 2 "_law_wants" ["wish", "piece"] (spTakes) := ⟨_, _, ok_law_wants F24 B (PySem.W.mg_of X G e_MOST_LETTERS) G_law_in, b24, k24, PySem.W.mg_of X G a24⟩
  have F25 := fun_mk (st := s_law_pair) l25 c25 k25
  have b25 := F25.binds (ps := ["bag"]) fun _ _ _ _ _ _ us hl => match us, hl with | [_], _ => rfl
  have G_law_pair : FnH l.prog w K mg base 4 "_law_pair" ["bag"] (spLawPair) := ⟨_, _, ok_law_pair F25 B (PySem.W.mg_of X G e_MOST_LETTERS) G_law_fields G_law_draw G_law_span G_law_near, b25, k25, PySem.W.mg_of X G a25⟩
  have F26 := fun_mk (st := s_law_met) l26 c26 k26
  have b26 := F26.binds (ps := ["bag", "wish", "piece"]) fun _ _ _ _ _ _ us hl => match us, hl with | [_, _, _], _ => rfl
  have G_law_met : FnH l.prog w K mg base 2 "_law_met" ["bag", "wish", "piece"] (spLawMet) := ⟨_, _, ok_law_met F26 B (PySem.W.mg_of X G e_MOST_LETTERS) G_law_draw, b26, k26, PySem.W.mg_of X G a26⟩
  have F27 := fun_mk (st := s_law_other_piece) l27 c27 k27
  have b27 := F27.binds (ps := ["bag", "piece"]) fun _ _ _ _ _ _ us hl => match us, hl with | [_, _], _ => rfl
  have G_law_other_piece : FnH l.prog w K mg base 3 "_law_other_piece" ["bag", "piece"] (spOtherPiece) := ⟨_, _, ok_law_other_piece F27 B (PySem.W.mg_of X G e_MOST_LETTERS) G_law_draw G_law_field G_law_held, b27, k27, PySem.W.mg_of X G a27⟩
  have F28 := fun_mk (st := s_law_other_wish) l28 c28 k28
  have b28 := F28.binds (ps := ["bag", "wish"]) fun _ _ _ _ _ _ us hl => match us, hl with | [_, _], _ => rfl
  have G_law_other_wish : FnH l.prog w K mg base 2 "_law_other_wish" ["bag", "wish"] (spOtherWish) := ⟨_, _, ok_law_other_wish F28 B (PySem.W.mg_of X G e_MOST_LETTERS) G_law_draw, b28, k28, PySem.W.mg_of X G a28⟩
  have F29 := fun_mk (st := s_law) l29 c29 k29
  exact ok_law F29 B (PySem.W.mg_of X G e_MOST_LETTERS) G_law_bag G_law_pair G_law_other_wish G_law_met G_law_other_piece G_wants G_law_wants
theorem walk {l : PySem.W.OpenLaw} {q : Program} {loose : List Str} {XP : (Str → Option Value) → Heap → Prop} {YP : World → Heap → Prop} {d : DefRec} {K : Params → PySem.W.Frag} (hn : l.most = some 63) (hdf : d.params.defaults = [])
    (hY : ∀ (w : World) (h : Heap), YP w h → (K w.params).In h)
    (F : ∀ (w : World) (mg : Str → Option Value) (fa : Addr) (h : Heap), (K w.params).In h → h.Ns mainGlobals mg → mg d.name = some (.ref fa) →
      ∃ fd : FuncData, (∀ (s : Shared) (u : Value), BindsTo s fd ⟨[u], []⟩ [("script", u)]) ∧ ∀ base : Heap, (K w.params).In base → base.Ns mainGlobals mg → FnOk l.prog w (K w.params) mg base CX0 8 fa fd ["script"] (spLaw (K w.params))) :
    PySem.W.WalkO q loose XP YP l.row.toRowW d [] (fun f vs => PySem.call f vs) :=
  L2.walk_of (n := 63) (k := 8) (x := "script") (CX := fun _ => CX0) (sp := fun w => spLaw (K w.params)) hn (by decide) hdf ⟨rfl, by decide, by decide⟩ hY F (fun _ _ a ns hl _ hS => ⟨a, ns, rfl, hS, hl, fun _ => rfl⟩) fun _ _ _ _ _ z => z
end K05
open PySem PySem.W PyProof.Rows
set_option maxRecDepth 100000 in
set_option maxHeartbeats 0 in
theorem PySem.Challenge.cw_newsways_k05_what_is_wanted_holds : PySem.Challenge.rw_newsways_k05_what_is_wanted.Holds := by
  w_on; o_law; k_head; (case hw => w_witness2)
  k_fill
  refine K05.walk (l := PySem.Challenge.rw_newsways_k05_what_is_wanted) rfl rfl (fun w h Y => PySem.W.kIn_of Y) ?F
  case F =>
    intro w mg fa h KX G hmg
    refine' K05.all_mk KX G hmg ?a1 ?l1 ?c1 ?k1 ?a2 ?l2 ?c2 ?k2 ?a3 ?l3 ?c3 ?k3 ?a4 ?l4 ?c4 ?k4 ?a5 ?l5 ?c5 ?k5 ?a6 ?l6 ?c6 ?k6 ?a7 ?l7 ?c7 ?k7 ?a8 ?l8 ?c8 ?k8 ?a9 ?l9 ?c9 ?k9 ?a10 ?l10 ?c10 ?k10 ?a11 ?l11 ?c11 ?k11 ?a12 ?l12 ?c12 ?k12 ?a13 ?l13 ?c13 ?k13 ?a14 ?l14 ?c14 ?k14 ?a15 ?l15 ?c15 ?k15 ?a16 ?l16 ?c16 ?k16 ?a17 ?l17 ?c17 ?k17 ?a18 ?l18 ?c18 ?k18 ?a19 ?l19 ?c19 ?k19 ?a20 ?l20 ?c20 ?k20 ?a21 ?l21 ?c21 ?k21 ?a22 ?l22 ?c22 ?k22 ?a23 ?l23 ?c23 ?k23 ?a24 ?l24 ?c24 ?k24 ?a25 ?l25 ?c25 ?k25 ?a26 ?l26 ?c26 ?k26 ?a27 ?l27 ?c27 ?k27 ?a28 ?l28 ?c28 ?k28 ?a29 ?l29 ?c29 ?k29 ?e_MOST_LETTERS ?z_len ?z_range ?z_isinstance ?z_int ?z_bool ?z_tuple ?z_list ?z_max ?z_min ?z_all ?z_zip ?z_str ?z_dict ?z_sorted ?z_set ?z_any ?z_sum ?z_enumerate ?z_repr ?z_ord ?z_chr ?z_abs ?z_reversed
    (case a1 => k_is); (case l1 => k_is); (case c1 => k_is); (case k1 => k_is)
    (case a2 => k_is); (case l2 => k_is); (case c2 => k_is); (case k2 => k_is)
    (case a3 => k_is); (case l3 => k_is); (case c3 => k_is); (case k3 => k_is)
    (case a4 => k_is); (case l4 => k_is); (case c4 => k_is); (case k4 => k_is)
    (case a5 => k_is); (case l5 => k_is); (case c5 => k_is); (case k5 => k_is)
    (case a6 => k_is); (case l6 => k_is); (case c6 => k_is); (case k6 => k_is)
    (case a7 => k_is); (case l7 => k_is); (case c7 => k_is); (case k7 => k_is)
    (case a8 => k_is); (case l8 => k_is); (case c8 => k_is); (case k8 => k_is)
    (case a9 => k_is); (case l9 => k_is); (case c9 => k_is); (case k9 => k_is)
    (case a10 => k_is); (case l10 => k_is); (case c10 => k_is); (case k10 => k_is)
    (case a11 => k_is); (case l11 => k_is); (case c11 => k_is); (case k11 => k_is)
    (case a12 => k_is); (case l12 => k_is); (case c12 => k_is); (case k12 => k_is)
    (case a13 => k_is); (case l13 => k_is); (case c13 => k_is); (case k13 => k_is)
    (case a14 => k_is); (case l14 => k_is); (case c14 => k_is); (case k14 => k_is)
    (case a15 => k_is); (case l15 => k_is); (case c15 => k_is); (case k15 => k_is)
    (case a16 => k_is); (case l16 => k_is); (case c16 => k_is); (case k16 => k_is)
    (case a17 => k_is); (case l17 => k_is); (case c17 => k_is); (case k17 => k_is)
    (case a18 => k_is); (case l18 => k_is); (case c18 => k_is); (case k18 => k_is)
    (case a19 => k_is); (case l19 => k_is); (case c19 => k_is); (case k19 => k_is)
    (case a20 => k_is); (case l20 => k_is); (case c20 => k_is); (case k20 => k_is)
    (case a21 => k_is); (case l21 => k_is); (case c21 => k_is); (case k21 => k_is)
    (case a22 => k_is); (case l22 => k_is); (case c22 => k_is); (case k22 => k_is)
    (case a23 => k_is); (case l23 => k_is); (case c23 => k_is); (case k23 => k_is)
    (case a24 => k_is); (case l24 => k_is); (case c24 => k_is); (case k24 => k_is)
    (case a25 => k_is); (case l25 => k_is); (case c25 => k_is); (case k25 => k_is)
    (case a26 => k_is); (case l26 => k_is); (case c26 => k_is); (case k26 => k_is)
    (case a27 => k_is); (case l27 => k_is); (case c27 => k_is); (case k27 => k_is)
    (case a28 => k_is); (case l28 => k_is); (case c28 => k_is); (case k28 => k_is)
    (case a29 => k_is); (case l29 => k_is); (case c29 => k_is); (case k29 => k_is)
    (case e_MOST_LETTERS => k_is)
    (case z_len => k_is); (case z_range => k_is); (case z_isinstance => k_is); (case z_int => k_is); (case z_bool => k_is); (case z_tuple => k_is); (case z_list => k_is); (case z_max => k_is); (case z_min => k_is); (case z_all => k_is); (case z_zip => k_is); (case z_str => k_is); (case z_dict => k_is); (case z_sorted => k_is); (case z_set => k_is); (case z_any => k_is); (case z_sum => k_is); (case z_enumerate => k_is); (case z_repr => k_is); (case z_ord => k_is); (case z_chr => k_is); (case z_abs => k_is); (case z_reversed => k_is)

