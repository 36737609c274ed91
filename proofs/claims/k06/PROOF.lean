import PyProof.Rows.All
import Wide.All
import OpenK.AllK
import Wide.FinOn
import Lean
import PyProof.EqAt
import PyProof.EqKinds
import PyProof.TupleCall
import PyProof.NeKinds
import KE.IntBitsLaws
import PyProof.StrWalks
import PyProof.FString5
import PyProof.ConsumeWalk
import PyProof.DictCompW
import PyProof.ZipIter
import PyProof.AttrMissHeap
import PyProof.ListNew
import PyProof.DictUpdate
import PyProof.EnumMake
import PyProof.Rows.SetFrom
import KE.KRevSl
import PyProof.FitsBits
import PyProof.Rows.SortStr
import PyProof.StrBlockL
import PyProof.JoinWalk
import PyProof.DictWalks
import PyProof.Rows.StrMeet
import PySem.Challenge.RW_newsways_k06_whole_covers_or_parts
-- CHANGE: your row's module here, as the last of these rows
set_option Elab.async false
set_option linter.all false
set_option maxRecDepth 100000
/-! merged hand layer -/
namespace L2
open PySem PySem.Spec PyProof.Rows

/-- a key: an int or a str -/
abbrev Key := Sum Int Str
def keyIs : Key → Value → Bool
  | .inl k, v => Value.isInt k v
  | .inr x, v => Value.isStrOf x v
def keyH (w : World) : Key → Int
  | .inl k => hashInt k
  | .inr x => hashStr w x
theorem keyIs_shape : ∀ {k : Key} {v : Value}, keyIs k v = true → (∃ i t, k = Sum.inl i ∧ v = Value.int i t) ∨ (∃ x t, k = Sum.inr x ∧ v = Value.str x t)
  | .inl i, v, h => by
    obtain ⟨t, e⟩ := Value.isInt_shape (k := i) (v := v) h
    exact .inl ⟨i, t, rfl, e⟩
  | .inr x, v, h => by
    obtain ⟨t, e⟩ := Value.isStrOf_shape (x := x) (v := v) h
    exact .inr ⟨x, t, rfl, e⟩
theorem keyIs_int (i : Int) (t : Tok) : keyIs (.inl i) (.int i t) = true := by simp [keyIs, Value.isInt]
theorem keyIs_str (x : Str) (t : Tok) : keyIs (.inr x) (.str x t) = true := by simp [keyIs, Value.isStrOf]
theorem key_ll (a b : Int) : decide ((Sum.inl a : Key) = Sum.inl b) = (a == b) := by
  by_cases e : a = b
  · subst e; simp
  · have h : ¬ (Sum.inl a : Key) = Sum.inl b := fun q => e (Sum.inl.inj q)
    rw [decide_eq_false h]
    exact (beq_eq_false_iff_ne.mpr e).symm
theorem key_rr (a b : Str) : decide ((Sum.inr a : Key) = Sum.inr b) = decide (a = b) := by
  by_cases e : a = b
  · subst e; simp
  · have h : ¬ (Sum.inr a : Key) = Sum.inr b := fun q => e (Sum.inr.inj q)
    rw [decide_eq_false h, decide_eq_false e]
theorem key_lr (a : Int) (b : Str) : decide ((Sum.inl a : Key) = Sum.inr b) = false := decide_eq_false (fun q => nomatch q)
theorem key_rl (a : Str) (b : Int) : decide ((Sum.inr a : Key) = Sum.inl b) = false := decide_eq_false (fun q => nomatch q)

def mixKind (prog : Program) (w : World) : PySem.KeyKind prog w Key where
  is := keyIs
  hash := keyH w
  inj := fun v a b ha hb => by
    rcases keyIs_shape ha with ⟨i, t, rfl, rfl⟩ | ⟨x, t, rfl, rfl⟩
    · rcases keyIs_shape hb with ⟨j, u, rfl, e⟩ | ⟨y, u, rfl, e⟩
      · injection e with e1 _; rw [e1]
      · exact nomatch e
    · rcases keyIs_shape hb with ⟨j, u, rfl, e⟩ | ⟨y, u, rfl, e⟩
      · exact nomatch e
      · injection e with e1 _; rw [e1]
  byValue := fun k v h => by
    rcases keyIs_shape h with ⟨i, t, rfl, rfl⟩ | ⟨x, t, rfl, rfl⟩ <;> rfl
  pyHash := fun hv h => by
    rcases keyIs_shape hv with ⟨i, t, rfl, rfl⟩ | ⟨x, t, rfl, rfl⟩
    · exact wpAny_pyHash_int h
    · exact wpAny_pyHash_str h
  eqBool := fun hu hv h => by
    rcases keyIs_shape hu with ⟨i, t, rfl, rfl⟩ | ⟨x, t, rfl, rfl⟩
    · rcases keyIs_shape hv with ⟨j, u, rfl, rfl⟩ | ⟨y, u, rfl, rfl⟩
      · rw [key_ll] at h; exact wpAny_eqBool_int h
      · rw [key_lr] at h; exact SeqAt.EqAt.int_str i t y u _ _ _ _ h
    · rcases keyIs_shape hv with ⟨j, u, rfl, rfl⟩ | ⟨y, u, rfl, rfl⟩
      · rw [key_rl] at h; exact SeqAt.EqAt.str_int x t j u _ _ _ _ h
      · rw [key_rr] at h; exact wpAny_eqBool_str h
  «strs» := fun k x t v h => by
    rcases keyIs_shape h with ⟨i, u, rfl, e⟩ | ⟨y, u, rfl, e⟩
    · exact nomatch e
    · injection e with e1 _
      subst e1
      cases v <;> rfl

theorem mixKind_is (prog : Program) (w : World) (k : Key) (v : Value) : (mixKind prog w).is k v = keyIs k v := rfl
theorem mixKind_int (prog : Program) (w : World) (i : Int) (t : Tok) : (mixKind prog w).is (.inl i) (.int i t) = true := keyIs_int i t
theorem mixKind_str (prog : Program) (w : World) (x : Str) (t : Tok) : (mixKind prog w).is (.inr x) (.str x t) = true := keyIs_str x t
end L2

namespace L2
open PySem PySem.Spec PyProof.Rows

/-- a value, without the heap -/
inductive V where
  | non | bl (b : Bool) | int (i : Int) | str (x : Str) | byt (b : Array UInt8) | flt (b : UInt64) | ref (a : Addr) | ty (n : String)
  deriving DecidableEq

def RelV : V → Value → Prop
  | .non, u => u = Value.none
  | .bl b, u => u = Value.bool b
  | .int i, u => ∃ t, u = Value.int i t
  | .str x, u => ∃ t, u = Value.str x t
  | .byt b, u => ∃ t, u = Value.bytes b t
  | .flt b, u => ∃ t, u = Value.float b t
  | .ref a, u => u = Value.ref a
  | .ty n, u => u = Value.type n

abbrev Vals : List V → List Value → Prop := Paired RelV
theorem Vals.length {xs : List V} {us : List Value} (r : Vals xs us) : xs.length = us.length := Paired.length r
theorem Vals.get : ∀ {xs : List V} {us : List Value} {i : Nat} {x : V}, Vals xs us → xs[i]? = some x → ∃ u, us[i]? = some u ∧ RelV x u
  | _, _, _, _, .nil, e => by simp at e
  | _, _, 0, _, .cons r _, e => by simp at e; subst e; exact ⟨_, rfl, r⟩
  | _, _, i + 1, x, .cons _ t, e => by
    obtain ⟨u, h1, h2⟩ := Vals.get (i := i) (x := x) t (by simpa using e)
    exact ⟨u, by simpa using h1, h2⟩
theorem Vals.set {x : V} {u : Value} (r : RelV x u) : ∀ {xs : List V} {us : List Value} (i : Nat), Vals xs us → Vals (xs.set i x) (us.set i u)
  | _, _, _, .nil => .nil
  | _, _, 0, .cons _ t => .cons r t
  | _, _, i + 1, .cons q t => .cons q (Vals.set r i t)
theorem Vals.append : ∀ {xs ys : List V} {us ws : List Value}, Vals xs us → Vals ys ws → Vals (xs ++ ys) (us ++ ws)
  | _, _, _, _, .nil, s => s
  | _, _, _, _, .cons r t, s => .cons r (Vals.append t s)
theorem Vals.take : ∀ {xs : List V} {us : List Value} (n : Nat), Vals xs us → Vals (xs.take n) (us.take n)
  | _, _, 0, _ => .nil
  | _, _, _ + 1, .nil => .nil
  | _, _, n + 1, .cons r t => .cons r (Vals.take n t)
theorem Vals.drop : ∀ {xs : List V} {us : List Value} (n : Nat), Vals xs us → Vals (xs.drop n) (us.drop n)
  | _, _, 0, r => r
  | _, _, _ + 1, .nil => .nil
  | _, _, n + 1, .cons _ t => Vals.drop n t
theorem Vals.none_of : ∀ {xs : List V} {us : List Value} {i : Nat}, Vals xs us → xs[i]? = none → us[i]? = none := fun {xs us i} r e => by
  have h1 := r.length
  have h2 : xs.length ≤ i := List.getElem?_eq_none_iff.mp e
  exact List.getElem?_eq_none_iff.mpr (by omega)

def RelO : Option V → Option Value → Prop
  | some v, some u => RelV v u
  | none, none => True
  | _, _ => False
def KV {κ : Type} : List (κ × V) → List (κ × Value) → Prop := Paired fun (p : κ × V) (q : κ × Value) => p.1 = q.1 ∧ RelV p.2 q.2

/-- a key of a dict (00_mix): an int or a text -/
def kV : Key → V
  | .inl i => .int i
  | .inr x => .str x

/-- what stands at a tracked address -/
inductive HO where
  /-- a list -/
  | lst (xs : List V)
  /-- a tuple (never changes) -/
  | tup (xs : List V)
  /-- a dict whose keys are ints and texts; one whose keys are tuples of ints and texts (the empty one is both) -/
  | dK (kvs : List (Key × V)) | dT (kvs : List (List Key × V))
  /-- a set of ints: its members, its size -/
  | set (S : Int → Bool) (n : Nat)
  /-- an instance of the class at C, its dict at dx, its attributes -/
  | ins (C dx : Addr) (fs : List (Str × V))
  /-- the dict of the instance at x -/
  | own (x : Addr)
  /-- the dict of an exception -/
  | xd (fs : List (Str × V))
  /-- a bound method, f of x -/
  | met (f x : Addr)
  /-- a range object lo, lo + 1, .. below hi -/
  | rng (lo hi : Int)
  /-- a thing that is known to the object (the script; a dict while a loop walks it): read, never written while it is so -/
  | frz (o : Obj) (u : HO)
  /-- a code object's table -/
  | tbl (ps : Array Value)
  /-- any other thing, by what is true of its one object (a def of one's own: SetO a S n := HO.ext fun h => ..) -/
  | ext (φ : Heap → Prop)

/-- a plain tuple: no dict -/
def IsTupP (h : Heap) (a : Addr) (items : Array Value) : Prop := ∃ o, h.get? a = some o ∧ o.cls = .type "tuple" ∧ o.dict = none ∧ ∃ n, o.data = .seq items n
theorem IsTupP.tup {h : Heap} {a : Addr} {items : Array Value} (x : IsTupP h a items) : IsTup h a items := let ⟨o, h1, h2, _, h3⟩ := x; ⟨o, h1, h2, h3⟩
theorem IsTupP.new (h : Heap) (items : Array Value) : IsTupP (h.push { cls := .type "tuple", data := .seq items }) h.objs.size items := ⟨_, Heap.get?_push_size _ rfl, rfl, rfl, _, rfl⟩
abbrev Hp := Addr → Option HO
def upd (H : Hp) (a : Addr) (o : HO) : Hp := fun b => if b = a then some o else H b
theorem upd_same {H : Hp} {a : Addr} {o : HO} : upd H a o a = some o := by unfold upd; rw [if_pos rfl]
theorem upd_ne {H : Hp} {a b : Addr} {o : HO} (h : b ≠ a) : upd H a o b = H b := by unfold upd; rw [if_neg h]
theorem upd_upd {H : Hp} {a : Addr} {o u : HO} : upd (upd H a o) a u = upd H a u := by
  funext b; unfold upd; split <;> rfl
/-- two objects of different content stand apart -/
theorem ne_of {H : Hp} {a b : Addr} {o u : HO} (h : H a = some o) (h' : H b = some u) (d : o ≠ u) : a ≠ b := by
  intro e; subst e; rw [h] at h'; exact d (Option.some.inj h')
theorem ne_of_none {H : Hp} {a b : Addr} {o : HO} (h : H a = some o) (h' : H b = none) : a ≠ b := by
  intro e; subst e; rw [h] at h'; cases h'

section
variable (P : Program) (w : World)
def ObjOk (H : Hp) (h : Heap) (a : Addr) : HO → Prop
  | .lst xs => xs.length ≤ sizeLine ∧ ∃ (its : List Value) (n : Nat), Vals xs its ∧ h.get? a = some { cls := .type "list", data := .seq its.toArray n }
  | .tup xs => xs.length ≤ sizeLine ∧ ∃ its : List Value, Vals xs its ∧ IsTupP h a its.toArray
  | .dK kvs => kvs.length ≤ sizeLine ∧ (a == sysModules) = false ∧ ∃ vs, KV kvs vs ∧ h.DictOf (mixKind P w) a vs
  | .dT kvs => kvs.length ≤ sizeLine ∧ (a == sysModules) = false ∧ ∃ xs : List (List Key × Addr × Value),
      Paired (fun (p : List Key × V) (q : List Key × Addr × Value) => p.1 = q.1 ∧ H q.2.1 = some (.tup (p.1.map kV)) ∧ RelV p.2 q.2.2) kvs xs ∧
      ∃ o es ep, h.get? a = some o ∧ o.ExactDict ∧ o.data = .dict es ep ∧ es.toList = xs.map (entryOfKey (tupleKind (mixKind P w))) ∧ (xs.map (·.1)).Nodup
  | .set S n => h.SetOf (intKind P w) a S n
  | .ins C dx fs => H dx = some (.own a) ∧ fs.length ≤ 1000 ∧ dx ≠ a ∧ h.get? a = some (PySem.W.instObj C dx) ∧
      ∃ mA, h.Ns1 dx mA ∧ (∀ f, RelO (fs.lookup f) (mA f)) ∧ PySem.Within mA (fs.map (·.1))
  | .own _ => ∃ o, h.get? a = some o
  | .xd fs => ∃ mA, h.Ns1 a mA ∧ ∀ f, RelO (fs.lookup f) (mA f)
  | .rng lo hi => ∃ t u v, h.get? a = some { cls := .type "range", data := .fields #[.int lo t, .int hi u, .int 1 v] }
  | .frz o u => h.get? a = some o ∧ ObjOk H h a u
  | .tbl ps => h.get? a = some { cls := .none, data := .fields ps }
  | .met f x => h.get? a = some (PySem.W.methodObj (.ref f) (.ref x))
  | .ext φ => φ h ∧ (∃ o, h.get? a = some o) ∧ ∀ h1 h2 : Heap, φ h1 → (∀ o, h1.get? a = some o → h2.get? a = some o) → φ h2
/-- the abstract heap is held -/
def HOk (H : Hp) (h : Heap) : Prop := ∀ a o, H a = some o → ObjOk P w H h a o
end

section
variable {P : Program} {w : World} {H H' : Hp} {h h' : Heap} {a : Addr} {o : HO}
theorem ObjOk.lt (x : ObjOk P w H h a o) : a < h.objs.size := by
  cases o with
  | lst xs => obtain ⟨_, _, _, _, e⟩ := x; exact Heap.lt_size e
  | tup xs => obtain ⟨_, _, _, p⟩ := x; exact (show IsTupP _ _ _ from p).tup.lt
  | dK kvs => obtain ⟨_, _, _, _, o, _, _, e, _⟩ := x; exact Heap.lt_size e
  | dT kvs => obtain ⟨_, _, _, _, o, _, _, e, _⟩ := x; exact Heap.lt_size e
  | set S n => obtain ⟨o, _, _, _, e, _⟩ := x; exact Heap.lt_size e
  | ins C dx fs => obtain ⟨_, _, _, e, _⟩ := x; exact Heap.lt_size e
  | own y => obtain ⟨_, e⟩ := x; exact Heap.lt_size e
  | xd fs => obtain ⟨_, ⟨_, _, _, e, _⟩, _⟩ := x; exact Heap.lt_size e
  | rng lo hi => obtain ⟨_, _, _, e⟩ := x; exact Heap.lt_size e
  | frz ob u => obtain ⟨e, _⟩ := x; exact Heap.lt_size e
  | tbl ps => exact Heap.lt_size (show h.get? a = some _ from x)
  | met f y => exact Heap.lt_size (show h.get? a = some _ from x)
  | ext φ => obtain ⟨_, ⟨_, e⟩, _⟩ := x; exact Heap.lt_size e
theorem Paired.mapP {α β : Type} {F G : α → β → Prop} : ∀ {l₁ : List α} {l₂ : List β}, Paired F l₁ l₂ → (∀ a b, F a b → G a b) → Paired G l₁ l₂
  | _, _, .nil, _ => .nil
  | _, _, .cons r t, f => .cons (f _ _ r) (Paired.mapP t f)
/-- what an object's description leans on: its own object, its own dict, the tuples -/
theorem ObjOk.stay (x : ObjOk P w H h a o) (k : ∀ b u, (b = a ∨ H b = some (.own a)) → h.get? b = some u → h'.get? b = some u)
    (ho : ∀ b, H b = some (.own a) → H' b = some (.own a)) (ht : ∀ b xs, H b = some (.tup xs) → H' b = some (.tup xs)) : ObjOk P w H' h' a o := by
  induction o with
  | lst xs => obtain ⟨z, its, n, r, e⟩ := x; exact ⟨z, its, n, r, k _ _ (.inl rfl) e⟩
  | tup xs => obtain ⟨z, its, r, ob, e, c⟩ := x; exact ⟨z, its, r, ob, k _ _ (.inl rfl) e, c⟩
  | dK kvs => obtain ⟨z, y, vs, r, ob, es, ep, e, c⟩ := x; exact ⟨z, y, vs, r, ob, es, ep, k _ _ (.inl rfl) e, c⟩
  | dT kvs =>
    obtain ⟨z, y, xs, r, ob, es, ep, e, c⟩ := x
    exact ⟨z, y, xs, Paired.mapP r fun p q z => ⟨z.1, ht _ _ z.2.1, z.2.2⟩, ob, es, ep, k _ _ (.inl rfl) e, c⟩
  | set S n => obtain ⟨ob, es, ep, t, e, c⟩ := x; exact ⟨ob, es, ep, t, k _ _ (.inl rfl) e, c⟩
  | ins C dx fs =>
    obtain ⟨d, z, ne, e, mA, ⟨od, es, ep, e2, c⟩, r⟩ := x
    exact ⟨ho _ d, z, ne, k _ _ (.inl rfl) e, mA, ⟨od, es, ep, k _ _ (.inr d) e2, c⟩, r⟩
  | own y => obtain ⟨ob, e⟩ := x; exact ⟨ob, k _ _ (.inl rfl) e⟩
  | xd fs => obtain ⟨mA, ⟨od, es, ep, e, c⟩, r⟩ := x; exact ⟨mA, ⟨od, es, ep, k _ _ (.inl rfl) e, c⟩, r⟩
  | rng lo hi => obtain ⟨t, u, v, e⟩ := x; exact ⟨t, u, v, k _ _ (.inl rfl) e⟩
  | frz ob u ih => obtain ⟨e, q⟩ := x; exact ⟨k _ _ (.inl rfl) e, ih q⟩
  | tbl ps =>
    have e : h.get? a = some { cls := .none, data := .fields ps } := x
    show h'.get? a = some { cls := .none, data := .fields ps }
    exact k a _ (.inl rfl) e
  | met f y =>
    have e : h.get? a = some (PySem.W.methodObj (.ref f) (.ref y)) := x
    show h'.get? a = some (PySem.W.methodObj (.ref f) (.ref y))
    exact k a _ (.inl rfl) e
  | ext φ => obtain ⟨p, ⟨o, e⟩, st⟩ := x; exact ⟨st _ _ p fun o q => k _ _ (.inl rfl) q, ⟨o, k _ _ (.inl rfl) e⟩, st⟩
theorem HOk.lt (x : HOk P w H h) (e : H a = some o) : a < h.objs.size := (x a o e).lt
theorem HOk.fresh (x : HOk P w H h) (e : h.objs.size ≤ a) : H a = none := by
  cases q : H a with
  | none => rfl
  | some u => exact absurd (Nat.lt_of_lt_of_le (x.lt q) e) (Nat.lt_irrefl _)
/-- every object of the heap is kept -/
theorem HOk.kept (x : HOk P w H h) (k : ∀ b u, h.get? b = some u → h'.get? b = some u) : HOk P w H h' := fun a o e =>
  (x a o e).stay (fun b u _ q => k b u q) (fun _ q => q) fun _ _ q => q
/-- a new object is laid and tracked -/
theorem HOk.laid (x : HOk P w H h) (k : ∀ b u, h.get? b = some u → h'.get? b = some u) (hp : h.objs.size ≤ a) (new : ObjOk P w (upd H a o) h' a o) : HOk P w (upd H a o) h' := fun b u e => by
  have hn := x.fresh hp
  by_cases hb : b = a
  · subst hb; rw [upd_same] at e; cases e; exact new
  · rw [upd_ne hb] at e
    exact (x b u e).stay (fun c v _ q => k c v q) (fun c q => by rw [upd_ne (ne_of_none q hn)]; exact q) fun c xs q => by rw [upd_ne (ne_of_none q hn)]; exact q
end

/-- what may be read as u: it is u, or a known u -/
def Rd (H : Hp) (a : Addr) (u : HO) : Prop := H a = some u ∨ ∃ o, H a = some (.frz o u)
theorem Rd.of {H : Hp} {a : Addr} {u : HO} (h : H a = some u) : Rd H a u := .inl h
theorem Rd.ok {P : Program} {w : World} {H : Hp} {h : Heap} {a : Addr} {u : HO} (r : Rd H a u) (x : HOk P w H h) : ObjOk P w H h a u := by
  rcases r with r | ⟨o, r⟩
  · exact x a u r
  · obtain ⟨_, q⟩ := x a _ r
    exact q
/-- what may be written -/
def Mut : Option HO → Prop
  | some (.lst _) => True
  | some (.dK _) => True
  | some (.dT _) => True
  | some (.set _ _) => True
  | some (.ins _ _ _) => True
  | some (.ext _) => True
  | _ => False
section
variable {P : Program} {w : World} {H : Hp} {h h' : Heap} {x e : Addr} {o' : HO}
/-- the object at e is changed: x itself, or the dict of the instance x -/
theorem HOk.write (ok : HOk P w H h) (mu : Mut (H x)) (he : e = x ∨ H e = some (.own x)) (k : ∀ b u, b ≠ e → h.get? b = some u → h'.get? b = some u) (heo : ∃ u, h'.get? e = some u)
    (new : ObjOk P w (upd H x o') h' x o') : HOk P w (upd H x o') h' := fun b u q => by
  have nown : ∀ c y, H c = some (.own y) → c ≠ x := fun c y r z => by subst z; rw [r] at mu; exact mu
  have ntup : ∀ c xs, H c = some (.tup xs) → c ≠ x := fun c xs r z => by subst z; rw [r] at mu; exact mu
  by_cases hb : b = x
  · subst hb; rw [upd_same] at q; cases q; exact new
  · rw [upd_ne hb] at q
    by_cases hbe : b = e
    · have q' : H b = some (.own x) := by
        rcases he with z | z
        · exact absurd (hbe.trans z) hb
        · rw [hbe]; exact z
      rw [q] at q'; cases q'
      obtain ⟨v, hv⟩ := heo
      exact ⟨v, by rw [hbe]; exact hv⟩
    · refine (ok b u q).stay (fun c v hc r => k c v ?_ r) (fun c r => by rw [upd_ne (nown c b r)]; exact r) fun c xs r => by rw [upd_ne (ntup c xs r)]; exact r
      rcases hc with rfl | hc
      · exact hbe
      · rintro rfl
        rcases he with z | z
        · exact nown c b hc z
        · rw [hc] at z; cases z; exact hb rfl
end

/-! ### kept unless tracked; of the frames at fs (the callers') the slots may change (an exception that passes writes there); of the records at ex (iterators) nothing is said -/
structure Un (fs ex : List Addr) (H H' : Hp) (h h' : Heap) : Prop where
  keep : ∀ b o, h.get? b = some o → H b = none → b ∉ fs → b ∉ ex → h'.get? b = some o
  slot : ∀ b o, h.get? b = some o → H b = none → b ∈ fs → b ∉ ex → ∃ sl, h'.get? b = some { o with slots := sl }
  free : ∀ b o, h.get? b = some o → H b = none → b ∉ ex → H' b = none
  there : ∀ b o, h.get? b = some o → b ∉ ex → ∃ o', h'.get? b = some o'
  tups : ∀ b xs, H b = some (.tup xs) → H' b = some (.tup xs)
  frzs : ∀ b o u, H b = some (.frz o u) → H' b = some (.frz o u)
  tbls : ∀ b ps, H b = some (.tbl ps) → ∃ more, H' b = some (.tbl (ps ++ more))
section
variable {fs fs' ex ex' : List Addr} {H H1 H2 : Hp} {h h1 h2 h' : Heap} {a x e : Addr} {o : HO}
theorem Un.any (u : Un fs ex H H1 h h1) {b : Addr} {ob : Obj} (q : h.get? b = some ob) (n : H b = none) (hx : b ∉ ex) : ∃ sl, h1.get? b = some { ob with slots := sl } := by
  by_cases hb : b ∈ fs
  · exact u.slot b ob q n hb hx
  · exact ⟨ob.slots, u.keep b ob q n hb hx⟩
theorem Un.trans (a : Un fs ex H H1 h h1) (b : Un fs ex H1 H2 h1 h2) : Un fs ex H H2 h h2 where
  keep := fun c ob q n hc hx => b.keep c ob (a.keep c ob q n hc hx) (a.free c ob q n hx) hc hx
  slot := fun c ob q n hc hx => by
    obtain ⟨sl, e1⟩ := a.slot c ob q n hc hx
    obtain ⟨sl', e2⟩ := b.slot c _ e1 (a.free c ob q n hx) hc hx
    exact ⟨sl', e2⟩
  free := fun c ob q n hx => by
    obtain ⟨o', e1⟩ := a.there c ob q hx
    exact b.free c o' e1 (a.free c ob q n hx) hx
  there := fun c ob q hx => by
    obtain ⟨o', e1⟩ := a.there c ob q hx
    exact b.there c o' e1 hx
  tups := fun c xs q => b.tups c xs (a.tups c xs q)
  frzs := fun c ob xs q => b.frzs c ob xs (a.frzs c ob xs q)
  tbls := fun c ps q => by
    obtain ⟨m1, e1⟩ := a.tbls c ps q
    obtain ⟨m2, e2⟩ := b.tbls c _ e1
    exact ⟨m1 ++ m2, by rw [e2, Array.append_assoc]⟩
theorem Un.kept (k : ∀ b u, h.get? b = some u → h'.get? b = some u) : Un fs ex H H h h' :=
  ⟨fun b ob q _ _ _ => k b ob q, fun b ob q _ _ _ => ⟨ob.slots, k b ob q⟩, fun _ _ _ n _ => n, fun b ob q _ => ⟨ob, k b ob q⟩, fun _ _ q => q, fun _ _ _ q => q, fun _ ps q => ⟨#[], by rw [q]; simp⟩⟩
theorem Un.refl : Un fs ex H H h h := Un.kept fun _ _ q => q
theorem Un.laid (k : ∀ b u, h.get? b = some u → h'.get? b = some u) (hp : h.objs.size ≤ a) (hn : H a = none) : Un fs ex H (upd H a o) h h' where
  keep := fun b u q _ _ _ => k b u q
  slot := fun b u q _ _ _ => ⟨u.slots, k b u q⟩
  free := fun b u q n _ => by rw [upd_ne (Nat.ne_of_lt (Nat.lt_of_lt_of_le (Heap.lt_size q) hp))]; exact n
  there := fun b u q _ => ⟨u, k b u q⟩
  tups := fun b xs q => by rw [upd_ne (ne_of_none q hn)]; exact q
  frzs := fun b u xs q => by rw [upd_ne (ne_of_none q hn)]; exact q
  tbls := fun b ps q => ⟨#[], by rw [upd_ne (ne_of_none q hn), q]; simp⟩
theorem Un.write (mu : Mut (H x)) (he : e = x ∨ H e = some (.own x)) (k : ∀ b u, b ≠ e → h.get? b = some u → h'.get? b = some u) (heo : ∃ u, h'.get? e = some u) : Un fs ex H (upd H x o) h h' := by
  have hx : ∀ b, H b = none → b ≠ x := fun b n z => by subst z; rw [n] at mu; exact mu
  have hb : ∀ b, H b = none → b ≠ e := fun b n z => by
    subst z
    rcases he with r | r
    · exact hx b n r
    · rw [n] at r; cases r
  have hm : ∀ b u, H b = some u → ¬ Mut (some u) → b ≠ x := fun b u q nm z => by subst z; rw [q] at mu; exact nm mu
  refine ⟨fun b u q n _ _ => k b u (hb b n) q, fun b u q n _ _ => ⟨u.slots, k b u (hb b n) q⟩, fun b u q n _ => by rw [upd_ne (hx b n)]; exact n, fun b u q _ => ?_,
    fun b xs q => by rw [upd_ne (hm b _ q fun z => z)]; exact q, fun b u xs q => by rw [upd_ne (hm b _ q fun z => z)]; exact q, fun b ps q => ⟨#[], by rw [upd_ne (hm b _ q fun z => z), q]; simp⟩⟩
  by_cases hbe : b = e
  · subst hbe; exact heo
  · exact ⟨u, k b u hbe q⟩
theorem Un.mono (u : Un fs ex H H1 h h1) (hs : ∀ b ∈ fs, b ∈ fs') (hx : ∀ b ∈ ex, b ∈ ex') : Un fs' ex' H H1 h h1 :=
  ⟨fun b ob q n hb he => u.keep b ob q n (fun z => hb (hs b z)) fun z => he (hx b z), fun _ _ q n _ he => u.any q n fun z => he (hx _ z), fun b ob q n he => u.free b ob q n fun z => he (hx b z), fun b ob q he => u.there b ob q fun z => he (hx b z), u.tups, u.frzs, u.tbls⟩
end

/-! ### the heap without what is tracked -/
def trk (h : Heap) (H : Hp) : List Addr := (List.range h.objs.size).filter fun a => (H a).isSome
def hidT (h : Heap) (H : Hp) : Heap := PySem.W.hideAll h (trk h H)
theorem hidT_size (h : Heap) (H : Hp) : (hidT h H).objs.size = h.objs.size := PySem.W.hideAll_size _ _
theorem hidT_get {h : Heap} {H : Hp} {b : Addr} {o : Obj} (e : h.get? b = some o) (n : H b = none) : (hidT h H).get? b = some o :=
  PySem.W.hideAll_get _ e fun hm => by
    have q : (H b).isSome = true := (List.mem_filter.mp hm).2
    rw [n] at q; simp at q
theorem of_hidT {h : Heap} {H : Hp} {b : Addr} {o : Obj} (e : (hidT h H).get? b = some o) : h.get? b = some o ∧ H b = none := by
  have e' : h.get? b = some o := PySem.W.of_hideAll (trk h H) e
  refine ⟨e', ?_⟩
  cases q : H b with
  | none => rfl
  | some x =>
    have hm : b ∈ trk h H := List.mem_filter.mpr ⟨List.mem_range.mpr (Heap.lt_size e'), by simp [q]⟩
    have z : (hidT h H).get? b = none := PySem.W.hideAll_none (trk h H) hm
    rw [z] at e; cases e

/-! ### OpenK's ledger, filled with every new object but one -/
def allNews (g h : Heap) (L : Addr) : List (Addr × Obj) := (List.range h.objs.size).filterMap fun a => if a = L ∨ (g.get? a).isSome = true then none else (h.get? a).map fun o => (a, o)
def rest (g h : Heap) (L d : Addr) : List (Addr × Obj) := (allNews g h L).filter fun p => decide (p.1 ≠ d)
end L2

namespace L2
open PySem PySem.Spec PyProof.Rows

/-- the module's facts, over the base: the heap at the law's entry without what is tracked there -/
structure Mod (K : PySem.W.Frag) (mg : Str → Option Value) (base : Heap) : Prop where
  kin : K.In base
  glob : base.Ns mainGlobals mg
  blt : ∃ mb, base.Ns builtinsNs mb ∧ ∀ x : Str, x ≠ "__name__" → mb x = bootBuiltins x
  nolimit : base.NoLimit

/-- the context: a def's body (or a comprehension's block) running. base: fixed through the whole law; s₀, H₀: the entry; outer: the frames whose slots others may change (a def's callers); stack: all frames that run;
   ex: iterators that were made ahead of the entry and are walked here (a comprehension's); fn: the names whose cells were made at the entry (a def: all; a comprehension's block: its own); calm: not within an except suite; pn: pins that every state bears; xe: what is wanted of an exception that leaves the code -/
structure Cx where
  prog : Program
  w : World
  K : PySem.W.Frag
  mg : Str → Option Value
  base : Heap
  A : Around
  N : List Str
  s₀ : Shared
  H₀ : Hp
  env : Env
  outer : List Env
  stack : List Env
  ex : List Addr
  fn : Str → Bool
  calm : Bool
  pn : List (Addr × Obj)
  xe : Value → Shared → Prop
/-- the callers' frames -/
def frs (l : List Env) : List Addr := l.filterMap (·.frame)
abbrev Cx.fs (X : Cx) : List Addr := frs X.outer

def Vis (sc : Scope) (x : Str) : Prop := sc.names.lookup x = some .local ∨ sc.names.lookup x = some .cell ∨ sc.names.lookup x = some .free
def Loc (sc : Scope) (x : Str) : Prop := sc.names.lookup x = some .local ∨ sc.names.lookup x = some .cell
def Look (env : Env) (h : Heap) (m : Str → Option Value) (x : Str) (u : Value) : Prop :=
  (env.kindOf x = some .local ∧ m x = some u) ∨ ((env.kindOf x = some .cell ∨ env.kindOf x = some .free) ∧ ∃ c, env.cells.lookup x = some c ∧ h.IsCell c (some u))

structure Cx.Ok (X : Cx) : Prop where
  mod : Mod X.K X.mg X.base
  kind : X.env.scope.kind = .function
  glob : X.env.globals = mainGlobals
  blt : X.env.builtins = builtinsNs
  above : X.s₀.heap.objs.size ≤ X.env.locals
  inj : ∀ x y c, X.env.cells.lookup x = some c → X.env.cells.lookup y = some c → x = y
  has : ∀ x, (X.env.kindOf x = some .cell ∨ X.env.kindOf x = some .free) → ∃ c, X.env.cells.lookup x = some c
  cab : ∀ x c, X.fn x = true → X.env.cells.lookup x = some c → X.s₀.heap.objs.size ≤ c
  hd : X.calm = true → X.A.handled = none
  frames : X.A.frames = some X.stack
  stk : X.stack = X.outer ∨ (X.stack = X.env :: X.outer ∧ X.env.frame = some X.env.locals)
  exf : ∀ b ∈ X.ex, b ≠ X.env.locals ∧ ∀ x c, X.env.cells.lookup x = some c → c ≠ b
  bs : ∀ b o, X.base.get? b = some o → X.s₀.heap.get? b = some o ∧ X.H₀ b = none
  bsz : X.base.objs.size ≤ X.s₀.heap.objs.size
  noex : ∀ b o, X.base.get? b = some o → b ∉ X.ex
  exfs : ∀ b ∈ X.ex, b ∉ X.fs
  funs : X.s₀.heap.FunFrames X.base X.outer
  frf : ∀ b ∈ X.fs, X.H₀ b = none

structure Inv (X : Cx) (pins : List (Addr × Obj)) (σ : List (Option V)) (H : Hp) (s : Shared) : Prop where
  ok : X.Ok
  os : s.os = X.s₀.os
  bare : AllBare s.gens
  base : Un X.fs X.ex X.H₀ H X.s₀.heap s.heap
  loc : ∃ m, s.heap.Ns X.env.locals m ∧ ∀ (i : Nat) (x : Str) (v : V), X.N[i]? = some x → σ[i]? = some (some v) → Vis X.env.scope x → ∃ u, RelV v u ∧ Look X.env s.heap m x u
  cell : ∀ x c, X.env.cells.lookup x = some c → ∃ v, s.heap.IsCell c v
  free : H X.env.locals = none
  freeC : ∀ x c, X.env.cells.lookup x = some c → H c = none
  pin : ∀ p ∈ X.pn ++ pins, s.heap.get? p.1 = some p.2 ∧ H p.1 = none ∧ p.1 ≠ X.env.locals ∧ p.1 ∉ X.fs ∧ ∀ v, p.2.data ≠ .cell v
  hok : HOk X.prog X.w H s.heap
  len : σ.length = X.N.length

section
variable {X : Cx} {pins : List (Addr × Obj)} {σ : List (Option V)} {H H' : Hp} {s : Shared} {h' : Heap}

theorem Cx.Ok.nofr (ok : X.Ok) {b : Addr} {o : Obj} (e : X.base.get? b = some o) : b ∉ X.fs := fun hb => by
  have := (ok.funs.mem hb).1
  rw [e] at this; cases this
theorem Inv.bs (I : Inv X pins σ H s) : ∀ b o, X.base.get? b = some o → s.heap.get? b = some o ∧ H b = none := fun b o e =>
  ⟨I.base.keep b o (I.ok.bs b o e).1 (I.ok.bs b o e).2 (I.ok.nofr e) (I.ok.noex b o e), I.base.free b o (I.ok.bs b o e).1 (I.ok.bs b o e).2 (I.ok.noex b o e)⟩
theorem Inv.bk (I : Inv X pins σ H s) : ∀ b o, X.base.get? b = some o → s.heap.get? b = some o := fun b o e => (I.bs b o e).1
theorem Inv.mod (I : Inv X pins σ H s) : Mod X.K X.mg X.base := I.ok.mod
theorem Inv.kIn (I : Inv X pins σ H s) : X.K.In s.heap := I.ok.mod.kin.keeps I.bk
theorem Inv.nolimit (I : Inv X pins σ H s) : s.heap.NoLimit := I.ok.mod.nolimit.keeps I.bk
/-- the frame over the base: for OpenK's rules (K.In X.base is I.mod.kin) -/
theorem Inv.fr (I : Inv X pins σ H s) : ∃ m, Fr X.base X.env.locals s.heap m :=
  let ⟨m, hn, _⟩ := I.loc
  ⟨m, hn, I.bk, Nat.le_trans I.ok.bsz I.ok.above⟩
theorem Inv.lt (I : Inv X pins σ H s) : X.env.locals < s.heap.objs.size := let ⟨_, hn, _⟩ := I.loc; hn.lt
theorem Inv.sz (I : Inv X pins σ H s) : X.s₀.heap.objs.size ≤ s.heap.objs.size := Nat.le_trans I.ok.above (Nat.le_of_lt I.lt)
theorem Inv.nofs (I : Inv X pins σ H s) {a : Addr} (h : s.heap.objs.size ≤ a) : a ∉ X.fs := fun hb => by
  obtain ⟨_, o, ho, _⟩ := I.ok.funs.mem hb
  exact absurd (Nat.lt_of_lt_of_le (Heap.lt_size ho) (Nat.le_trans I.sz h)) (Nat.lt_irrefl _)
theorem Inv.cne (I : Inv X pins σ H s) : ∀ x c, X.env.cells.lookup x = some c → c ≠ X.env.locals := fun x c e z => by
  obtain ⟨v, o, ho, hd⟩ := I.cell x c e
  obtain ⟨m, ⟨o', es, ep, ho', hd', _⟩, _⟩ := I.loc
  rw [z, ho'] at ho; cases ho; rw [hd'] at hd; cases hd
theorem Inv.funs (I : Inv X pins σ H s) : s.heap.FunFrames X.base X.outer := by
  have all : ∀ (l : List Env), (∀ b ∈ frs l, b ∈ X.fs) → X.s₀.heap.FunFrames X.base l → s.heap.FunFrames X.base l := by
    intro l
    induction l with
    | nil => intro _ _; trivial
    | cons env r ih =>
      intro hs hl
      obtain ⟨hk, ⟨L, o, hf, hn, ho, hd⟩, hr⟩ := hl
      have hL : L ∈ X.fs := hs L (by unfold frs; rw [List.filterMap_cons, hf]; exact List.mem_cons_self)
      obtain ⟨sl, e⟩ := I.base.slot L o ho (I.ok.frf L hL) hL fun z => I.ok.exfs L z hL
      exact ⟨hk, ⟨L, _, hf, hn, e, hd⟩, ih (fun b hb => hs b (by unfold frs; rw [List.filterMap_cons, hf]; exact List.mem_cons_of_mem _ hb)) hr⟩
  exact all X.outer (fun _ hb => hb) I.ok.funs

/-- the frames that run, for a call -/
theorem Inv.stack (I : Inv X pins σ H s) : s.heap.FunFrames X.base X.stack := by
  rcases I.ok.stk with e | ⟨e, hf⟩
  · rw [e]; exact I.funs
  · rw [e]
    obtain ⟨m, hn, _⟩ := I.loc
    refine .cons (by rw [I.ok.kind]; decide) hf hn ?_ I.funs
    exact Heap.get?_none_of_le (Nat.le_trans I.ok.bsz I.ok.above)
theorem Inv.stkSub (I : Inv X pins σ H s) : ∀ b ∈ frs X.stack, b ∈ X.env.locals :: X.fs := fun b hb => by
  rcases I.ok.stk with e | ⟨e, hf⟩
  · rw [e] at hb; exact List.mem_cons_of_mem _ hb
  · rw [e] at hb
    unfold frs at hb
    rw [List.filterMap_cons, hf] at hb
    exact hb
theorem Inv.stkFree (I : Inv X pins σ H s) : ∀ b ∈ frs X.stack, H b = none := fun b hb => by
  rcases List.mem_cons.mp (I.stkSub b hb) with e | hb
  · rw [e]; exact I.free
  · obtain ⟨_, o, ho, _⟩ := I.ok.funs.mem hb
    exact I.base.free b o ho (I.ok.frf b hb) fun z => I.ok.exfs b z hb

/-- THE STEP: the untracked objects but the frame and the records at ch are kept (the callers' frames up to slots), the frame's map is kept, the new abstract heap is held -/
theorem Inv.step {g' : Array GenState} {t' : Nat} {d' : Drawn} {ch : List Addr} (I : Inv X pins σ H s)
    (hch : ∀ b ∈ ch, (b ∈ X.ex ∨ X.s₀.heap.objs.size ≤ b) ∧ b ≠ X.env.locals ∧ (∀ x c, X.env.cells.lookup x = some c → c ≠ b) ∧ ∀ p ∈ X.pn ++ pins, p.1 ≠ b)
    (keep : ∀ b o, b ≠ X.env.locals → b ∉ X.fs → b ∉ ch → s.heap.get? b = some o → H b = none → h'.get? b = some o)
    (slot : ∀ b o, b ≠ X.env.locals → b ∈ X.fs → b ∉ ch → s.heap.get? b = some o → H b = none → ∃ sl, h'.get? b = some { o with slots := sl }) (free : ∀ b o, b ∉ ch → s.heap.get? b = some o → H b = none → H' b = none)
    (there : ∀ b o, b ∉ ch → s.heap.get? b = some o → ∃ o', h'.get? b = some o')
    (tups : ∀ b xs, H b = some (.tup xs) → H' b = some (.tup xs)) (frzs : ∀ b o u, H b = some (.frz o u) → H' b = some (.frz o u)) (tbls : ∀ b ps, H b = some (.tbl ps) → ∃ more, H' b = some (.tbl (ps ++ more)))
    (ns : ∀ m, s.heap.Ns X.env.locals m → h'.Ns X.env.locals m) (hok : HOk X.prog X.w H' h') (hg : AllBare g') :
    Inv X pins σ H' { s with heap := h', gens := g', drawn := d', toks := t' } := by
  have neL : ∀ b o, X.s₀.heap.get? b = some o → b ≠ X.env.locals := fun b o e => Nat.ne_of_lt (Nat.lt_of_lt_of_le (Heap.lt_size e) I.ok.above)
  have neC : ∀ b o, X.s₀.heap.get? b = some o → b ∉ X.ex → b ∉ ch := fun b o e hx hb => by
    rcases (hch b hb).1 with z | z
    · exact hx z
    · exact absurd (Nat.lt_of_lt_of_le (Heap.lt_size e) z) (Nat.lt_irrefl _)
  have cellK : ∀ x c, X.env.cells.lookup x = some c → ∀ v, s.heap.IsCell c v → h'.IsCell c v := fun x c e v ⟨o, ho, hd⟩ => by
    have nch : c ∉ ch := fun z => (hch c z).2.2.1 x c e rfl
    by_cases hc : c ∈ X.fs
    · obtain ⟨sl, q⟩ := slot c o (I.cne x c e) hc nch ho (I.freeC x c e)
      exact ⟨_, q, hd⟩
    · exact ⟨o, keep c o (I.cne x c e) hc nch ho (I.freeC x c e), hd⟩
  refine ⟨I.ok, I.os, hg, ⟨fun b o e n hb hx => ?_, fun b o e n hb hx => ?_, fun b o e n hx => ?_, fun b o e hx => ?_, fun b xs e => tups b xs (I.base.tups b xs e), fun b o xs e => frzs b o xs (I.base.frzs b o xs e), fun b ps e => ?_⟩, ?_, fun x c e => ?_, ?_, fun x c e => ?_, fun p hp => ?_, hok, I.len⟩
  · exact keep b o (neL b o e) hb (neC b o e hx) (I.base.keep b o e n hb hx) (I.base.free b o e n hx)
  · obtain ⟨sl, e1⟩ := I.base.slot b o e n hb hx
    obtain ⟨sl', e2⟩ := slot b _ (neL b o e) hb (neC b o e hx) e1 (I.base.free b o e n hx)
    exact ⟨sl', e2⟩
  · obtain ⟨o', e1⟩ := I.base.there b o e hx
    exact free b o' (neC b o e hx) e1 (I.base.free b o e n hx)
  · obtain ⟨o', e1⟩ := I.base.there b o e hx
    exact there b o' (neC b o e hx) e1
  · obtain ⟨m1, e1⟩ := I.base.tbls b ps e
    obtain ⟨m2, e2⟩ := tbls b _ e1
    exact ⟨m1 ++ m2, by rw [e2, Array.append_assoc]⟩
  · obtain ⟨m, hn, hl⟩ := I.loc
    refine ⟨m, ns m hn, fun i x v e1 e2 e3 => ?_⟩
    obtain ⟨u, r, l⟩ := hl i x v e1 e2 e3
    refine ⟨u, r, ?_⟩
    rcases l with l | ⟨k, c, e, z⟩
    · exact .inl l
    · exact .inr ⟨k, c, e, cellK x c e _ z⟩
  · obtain ⟨v, z⟩ := I.cell x c e
    exact ⟨v, cellK x c e v z⟩
  · obtain ⟨m, ⟨o, _, _, ho, _⟩, _⟩ := I.loc
    exact free _ o (fun z => (hch _ z).2.1 rfl) ho I.free
  · obtain ⟨v, o, ho, hd⟩ := I.cell x c e
    exact free c o (fun z => (hch c z).2.2.1 x c e rfl) ho (I.freeC x c e)
  · obtain ⟨e, n, ne, nf, d⟩ := I.pin p hp
    have nch : p.1 ∉ ch := fun z => (hch p.1 z).2.2.2 p hp rfl
    exact ⟨keep p.1 p.2 ne nf nch e n, free p.1 p.2 nch e n, ne, nf, d⟩
/-- .. where the frame's own object is kept too -/
theorem Inv.un {t' : Nat} (I : Inv X pins σ H s) (u : Un X.fs [] H H' s.heap h') (hok : HOk X.prog X.w H' h') : Inv X pins σ H' { s with heap := h', toks := t' } := by
  obtain ⟨m, ⟨o, es, ep, ho, r⟩, _⟩ := id I.loc
  obtain ⟨sl, hL⟩ := u.any ho I.free (by simp)
  exact I.step (g' := s.gens) (d' := s.drawn) (ch := []) (fun _ z => nomatch z) (fun b o _ hb _ e n => u.keep b o e n hb (by simp)) (fun b o _ hb _ e n => u.slot b o e n hb (by simp)) (fun b o _ e n => u.free b o e n (by simp)) (fun b o _ e => u.there b o e (by simp)) u.tups u.frzs u.tbls (fun m' hm => by
    obtain ⟨o', es', ep', ho', r'⟩ := hm
    rw [ho] at ho'; cases ho'
    exact ⟨_, es', ep', hL, r'⟩) hok I.bare
/-- behind a call (or a comprehension's block): the slots of this frame may have changed too, the records at ch may have turned -/
theorem Inv.call {g' : Array GenState} {t' : Nat} {d' : Drawn} {ch : List Addr} (I : Inv X pins σ H s) (u : Un (frs X.stack) ch H H' s.heap h') (hok : HOk X.prog X.w H' h') (hg : AllBare g')
    (hch : ∀ b ∈ ch, (b ∈ X.ex ∨ X.s₀.heap.objs.size ≤ b) ∧ b ≠ X.env.locals ∧ (∀ x c, X.env.cells.lookup x = some c → c ≠ b) ∧ ∀ p ∈ X.pn ++ pins, p.1 ≠ b) :
    Inv X pins σ H' { s with heap := h', gens := g', drawn := d', toks := t' } := by
  obtain ⟨m, ⟨o, es, ep, ho, r⟩, _⟩ := id I.loc
  obtain ⟨sl, hL⟩ := u.any ho I.free fun z => (hch _ z).2.1 rfl
  exact I.step (ch := ch) hch (fun b o hL hb hc e n => u.keep b o e n (fun z => (List.mem_cons.mp (I.stkSub b z)).elim hL hb) hc) (fun b o _ _ hc e n => u.any e n hc) (fun b o hc e n => u.free b o e n hc) (fun b o hc e => u.there b o e hc) u.tups u.frzs u.tbls (fun m' hm => by
    obtain ⟨o', es', ep', ho', r'⟩ := hm
    rw [ho] at ho'; cases ho'
    exact ⟨_, es', ep', hL, r'⟩) hok hg
/-- an untracked record of ours (an iterator) has turned -/
theorem Inv.turned {t' : Nat} {it : Addr} (I : Inv X pins σ H s) (k : ∀ b o, b ≠ it → s.heap.get? b = some o → h'.get? b = some o) (hn : H it = none) (hL : it ≠ X.env.locals)
    (h1 : it ∈ X.ex ∨ X.s₀.heap.objs.size ≤ it) (h2 : ∀ x c, X.env.cells.lookup x = some c → c ≠ it) (h3 : ∀ p ∈ X.pn ++ pins, p.1 ≠ it) : Inv X pins σ H { s with heap := h', toks := t' } := by
  have nit : ∀ b u, H b = some u → b ≠ it := fun b u e z => by rw [z, hn] at e; cases e
  refine I.step (g' := s.gens) (d' := s.drawn) (ch := [it]) (fun b hb => ?_) (fun b o _ _ hc e _ => k b o (fun z => hc (by simp [z])) e) (fun b o _ _ hc e _ => ⟨o.slots, k b o (fun z => hc (by simp [z])) e⟩) (fun _ _ _ _ n => n)
    (fun b o hc e => ⟨o, k b o (fun z => hc (by simp [z])) e⟩) (fun _ _ e => e) (fun _ _ _ e => e) (fun b ps e => ⟨#[], by rw [e]; simp⟩) (fun m hm => ?_) (fun b u e => ?_) I.bare
  · have e : b = it := by simpa using hb
    subst e
    exact ⟨h1, hL, h2, h3⟩
  · obtain ⟨o, es, ep, ho, r⟩ := hm
    exact ⟨o, es, ep, k _ o (Ne.symm hL) ho, r⟩
  · refine (I.hok b u e).stay (fun c v hc q => k c v ?_ q) (fun _ q => q) fun _ _ q => q
    rcases hc with z | z
    · rw [z]; exact nit b u e
    · exact nit c _ z
theorem Inv.tok (I : Inv X pins σ H s) (t : Nat) : Inv X pins σ H { s with toks := t } := I.un (h' := s.heap) (t' := t) Un.refl I.hok
/-- all objects kept -/
theorem Inv.kept {t' : Nat} (I : Inv X pins σ H s) (k : ∀ b u, s.heap.get? b = some u → h'.get? b = some u) : Inv X pins σ H { s with heap := h', toks := t' } := I.un (Un.kept k) (I.hok.kept k)
/-- a new object laid and tracked -/
theorem Inv.laid {a : Addr} {o : HO} {t' : Nat} (I : Inv X pins σ H s) (k : ∀ b u, s.heap.get? b = some u → h'.get? b = some u) (hp : s.heap.objs.size ≤ a) (new : ObjOk X.prog X.w (upd H a o) h' a o) :
    Inv X pins σ (upd H a o) { s with heap := h', toks := t' } := I.un (Un.laid k hp (I.hok.fresh hp)) (I.hok.laid k hp new)
/-- an object written -/
theorem Inv.write {x e : Addr} {o : HO} {t' : Nat} (I : Inv X pins σ H s) (mu : Mut (H x)) (he : e = x ∨ H e = some (.own x)) (k : ∀ b u, b ≠ e → s.heap.get? b = some u → h'.get? b = some u) (heo : ∃ u, h'.get? e = some u)
    (new : ObjOk X.prog X.w (upd H x o) h' x o) : Inv X pins σ (upd H x o) { s with heap := h', toks := t' } := I.un (Un.write mu he k heo) (I.hok.write mu he k heo new)
theorem Inv.pins_of {pins' : List (Addr × Obj)} (I : Inv X pins σ H s) (h : ∀ p ∈ pins', s.heap.get? p.1 = some p.2 ∧ H p.1 = none ∧ p.1 ≠ X.env.locals ∧ p.1 ∉ X.fs ∧ ∀ v, p.2.data ≠ .cell v) : Inv X pins' σ H s :=
  ⟨I.ok, I.os, I.bare, I.base, I.loc, I.cell, I.free, I.freeC, fun p hp => (List.mem_append.mp hp).elim (fun z => I.pin p (List.mem_append_left _ z)) (h p), I.hok, I.len⟩

theorem nodup_ix {N : List Str} (hN : N.Nodup) {i j : Nat} {x : Str} (a : N[i]? = some x) (b : N[j]? = some x) : i = j := by
  obtain ⟨h1, e1⟩ := List.getElem?_eq_some_iff.mp a
  obtain ⟨h2, e2⟩ := List.getElem?_eq_some_iff.mp b
  exact (List.getElem_inj hN).mp (e1.trans e2.symm)

/-- a name is stored; what changed -/
theorem store_ok2 {M : Model} {A : Around} {E : Value → Shared → Prop} {i : Nat} {x : Str} {v : V} {u : Value} {Q : Unit → Shared → Prop} (I : Inv X pins σ H s) (hN : X.N.Nodup) (hi : X.N[i]? = some x) (hx : Loc X.env.scope x) (r : RelV v u)
    (h : ∀ s', Inv X pins (σ.set i (some v)) H s' → (∃ a, Heap.SameBut a s.heap s'.heap ∧ (a = X.env.locals ∨ X.env.cells.lookup x = some a)) → Q () s') (hf : X.fn x = true ∨ X.env.scope.names.lookup x = some .local := by first | exact .inl rfl | exact .inr rfl | assumption) : wpAny M A (storeName X.env x u) Q E s := by
  obtain ⟨m, hn, hl⟩ := id I.loc
  have hcls : (X.env.scope.kind == .class || (X.env.scope.kind == .module && X.env.locals != X.env.globals)) = false := by rw [I.ok.kind]; rfl
  have hiσ : i < σ.length := by rw [I.len]; exact (List.getElem?_eq_some_iff.mp hi).1
  have cne := I.cne
  have tracked : ∀ {a : Addr} {h' : Heap}, (∃ o, s.heap.get? a = some o ∧ H a = none) → Heap.SameBut a s.heap h' → HOk X.prog X.w H h' := fun {a h'} ha hs b ob e => by
    obtain ⟨_, _, hfree⟩ := ha
    refine (I.hok b ob e).stay (fun c w' hc q => (hs.2 c ?_).trans q) (fun _ q => q) fun _ _ q => q
    rintro rfl
    rcases hc with rfl | hc
    · rw [hfree] at e; cases e
    · rw [hfree] at hc; cases hc
  rcases hx with hk | hk
  · refine wpAny_storeName_local hk hn (fun h' hn' hs => ?_) hcls
    obtain ⟨oL, _, _, hoL, _⟩ := id hn
    refine h _ ⟨I.ok, I.os, I.bare, ⟨fun b o e n hb hx => ?_, fun b o e n hb hx => ?_, I.base.free, fun b o e hx => ?_, I.base.tups, I.base.frzs, I.base.tbls⟩, ⟨_, hn', fun j y v' e1 e2 e3 => ?_⟩, fun y c e => ?_, I.free, I.freeC, fun p hp => ?_, tracked ⟨oL, hoL, I.free⟩ hs, by simpa using I.len⟩ ⟨_, hs, .inl rfl⟩
    · exact (hs.2 b (Nat.ne_of_lt (Nat.lt_of_lt_of_le (Heap.lt_size e) I.ok.above))).trans (I.base.keep b o e n hb hx)
    · obtain ⟨sl, e1⟩ := I.base.slot b o e n hb hx
      exact ⟨sl, (hs.2 b (Nat.ne_of_lt (Nat.lt_of_lt_of_le (Heap.lt_size e) I.ok.above))).trans e1⟩
    · obtain ⟨o', e1⟩ := I.base.there b o e hx
      exact ⟨o', (hs.2 b (Nat.ne_of_lt (Nat.lt_of_lt_of_le (Heap.lt_size e) I.ok.above))).trans e1⟩
    · by_cases hj : j = i
      · subst hj
        rw [hi] at e1; cases e1
        rw [List.getElem?_set_self hiσ] at e2
        cases e2
        exact ⟨u, r, .inl ⟨hk, by simp⟩⟩
      · rw [List.getElem?_set_ne (Ne.symm hj)] at e2
        obtain ⟨u', r', q⟩ := hl j y v' e1 e2 e3
        refine ⟨u', r', ?_⟩
        rcases q with ⟨k, e⟩ | ⟨k, c, e, z⟩
        · refine .inl ⟨k, ?_⟩
          have : y ≠ x := fun e => hj (nodup_ix hN e1 (e ▸ hi))
          simp [this, e]
        · exact .inr ⟨k, c, e, z.sameBut hs (cne y c e)⟩
    · obtain ⟨w', z⟩ := I.cell y c e
      exact ⟨w', z.sameBut hs (cne y c e)⟩
    · obtain ⟨e, n, ne, nf, d⟩ := I.pin p hp
      exact ⟨(hs.2 p.1 ne).trans e, n, ne, nf, d⟩
  · have hfn : X.fn x = true := by
      rcases hf with z | z
      · exact z
      · rw [z] at hk; cases hk
    obtain ⟨c, hc⟩ := I.ok.has x (.inl hk)
    obtain ⟨w', z⟩ := I.cell x c hc
    refine wpAny_storeName_cell I.ok.kind hk hc z (fun h' hc' hs => ?_)
    obtain ⟨oc, hoc, hocd⟩ := id z
    refine h { s with heap := h' } ⟨I.ok, I.os, I.bare, ⟨fun b o e n hb hx => ?_, fun b o e n hb hx => ?_, I.base.free, fun b o e hx => ?_, I.base.tups, I.base.frzs, I.base.tbls⟩, ⟨m, hn.sameBut hs (Ne.symm (cne x c hc)), fun j y v' e1 e2 e3 => ?_⟩, fun y c' e => ?_, I.free, I.freeC, fun p hp => ?_, tracked ⟨oc, hoc, I.freeC x c hc⟩ hs, by simpa using I.len⟩ ⟨c, hs, .inr hc⟩
    · exact (hs.2 b (Nat.ne_of_lt (Nat.lt_of_lt_of_le (Heap.lt_size e) (I.ok.cab x c hfn hc)))).trans (I.base.keep b o e n hb hx)
    · obtain ⟨sl, e1⟩ := I.base.slot b o e n hb hx
      exact ⟨sl, (hs.2 b (Nat.ne_of_lt (Nat.lt_of_lt_of_le (Heap.lt_size e) (I.ok.cab x c hfn hc)))).trans e1⟩
    · obtain ⟨o', e1⟩ := I.base.there b o e hx
      exact ⟨o', (hs.2 b (Nat.ne_of_lt (Nat.lt_of_lt_of_le (Heap.lt_size e) (I.ok.cab x c hfn hc)))).trans e1⟩
    · by_cases hj : j = i
      · subst hj
        rw [hi] at e1; cases e1
        rw [List.getElem?_set_self hiσ] at e2
        cases e2
        exact ⟨u, r, .inr ⟨.inl hk, c, hc, hc'⟩⟩
      · rw [List.getElem?_set_ne (Ne.symm hj)] at e2
        obtain ⟨u', r', q⟩ := hl j y v' e1 e2 e3
        refine ⟨u', r', ?_⟩
        rcases q with q | ⟨k, c', e, z'⟩
        · exact .inl q
        · refine .inr ⟨k, c', e, z'.sameBut hs ?_⟩
          rintro rfl
          exact hj (nodup_ix hN e1 (I.ok.inj _ _ _ e hc ▸ hi))
    · by_cases hcc : c' = c
      · subst hcc; exact ⟨_, hc'⟩
      · obtain ⟨w2, z2⟩ := I.cell y c' e
        exact ⟨w2, z2.sameBut hs hcc⟩
    · obtain ⟨e, n, ne, nf, d⟩ := I.pin p hp
      refine ⟨(hs.2 p.1 ?_).trans e, n, ne, nf, d⟩
      intro q
      rw [q, hoc] at e
      have q' : oc = p.2 := Option.some.inj e
      exact d w' (by rw [← q']; exact hocd)
theorem store_ok {M : Model} {A : Around} {E : Value → Shared → Prop} {i : Nat} {x : Str} {v : V} {u : Value} {Q : Unit → Shared → Prop} (I : Inv X pins σ H s) (hN : X.N.Nodup) (hi : X.N[i]? = some x) (hx : Loc X.env.scope x) (r : RelV v u)
    (h : ∀ s', Inv X pins (σ.set i (some v)) H s' → Q () s') (hf : X.fn x = true ∨ X.env.scope.names.lookup x = some .local := by first | exact .inl rfl | exact .inr rfl | assumption) : wpAny M A (storeName X.env x u) Q E s :=
  store_ok2 I hN hi hx r (fun s' I' _ => h s' I') hf
/-- behind a call or a block, the state as it is -/
theorem Inv.call' {s' : Shared} {ch : List Addr} (I : Inv X pins σ H s) (ho : s'.os = s.os) (u : Un (frs X.stack) ch H H' s.heap s'.heap) (hok : HOk X.prog X.w H' s'.heap) (hg : AllBare s'.gens)
    (hch : ∀ b ∈ ch, (b ∈ X.ex ∨ X.s₀.heap.objs.size ≤ b) ∧ b ≠ X.env.locals ∧ (∀ x c, X.env.cells.lookup x = some c → c ≠ b) ∧ ∀ p ∈ X.pn ++ pins, p.1 ≠ b) : Inv X pins σ H' s' := by
  obtain ⟨h', g', d', t', o'⟩ := s'
  have e : o' = s.os := ho
  subst e
  exact I.call (g' := g') (t' := t') (d' := d') u hok hg hch
end

/-! ### the judgements -/
/-- an exception: its class, its own dict's address (where it has one), the abstract heap behind it -/
abbrev XK := Value → Option Addr → Hp → Prop
abbrev St := List (Option V)
abbrev VK := V → Hp → Prop
/-- an expression's reading; a test's; an argument list's -/
abbrev TE := St → Hp → VK → Prop
abbrev TT := St → Hp → (Bool → Hp → Prop) → Prop
abbrev TA := St → Hp → (List V → Hp → Prop) → Prop
/-- what is wanted behind a statement -/
structure Ends where
  nx : St → Hp → Prop
  rt : VK
  bk : St → Hp → Prop := fun _ _ => False
  ct : St → Hp → Prop := fun _ _ => False
abbrev TS := Ends → St → Hp → Prop

def EP (X : Cx) (pins : List (Addr × Obj)) (σ : St) (Q : VK) (u : Value) (s' : Shared) : Prop := ∃ v H', Inv X pins σ H' s' ∧ RelV v u ∧ Q v H'
def TP (X : Cx) (pins : List (Addr × Obj)) (σ : St) (Q : Bool → Hp → Prop) (b : Bool) (s' : Shared) : Prop := ∃ H', Inv X pins σ H' s' ∧ Q b H'
def AP (X : Cx) (pins : List (Addr × Obj)) (σ : St) (Q : List V → Hp → Prop) (us : List Value) (s' : Shared) : Prop := ∃ vs H', Inv X pins σ H' s' ∧ Vals vs us ∧ Q vs H'
def SP (X : Cx) (pins : List (Addr × Obj)) (D : Ends) (f : Flow) (s' : Shared) : Prop :=
  match f with
  | .next => ∃ σ' H', Inv X pins σ' H' s' ∧ D.nx σ' H'
  | .brk => ∃ σ' H', Inv X pins σ' H' s' ∧ D.bk σ' H'
  | .cont => ∃ σ' H', Inv X pins σ' H' s' ∧ D.ct σ' H'
  | .ret u => ∃ v σ' H', Inv X pins σ' H' s' ∧ RelV v u ∧ D.rt v H'

def PE (X : Cx) (e : Expr) (t : TE) : Prop :=
  ∀ (pins : List (Addr × Obj)) (s : Shared) (σ : St) (H : Hp) (Q : VK), Inv X pins σ H s → t σ H Q → wpAny (model X.prog X.w) X.A (eval e X.env) (EP X pins σ Q) X.xe s
def PT (X : Cx) (e : Expr) (t : TT) : Prop :=
  ∀ (pins : List (Addr × Obj)) (s : Shared) (σ : St) (H : Hp) (Q : Bool → Hp → Prop), Inv X pins σ H s → t σ H Q → wpAny (model X.prog X.w) X.A (isTrue e X.env (eval e X.env)) (TP X pins σ Q) X.xe s
/-- a test whatever its 'whole' is (and, or) -/
def PW (X : Cx) (e : Expr) (t : TT) : Prop :=
  ∀ (whole : Sem Value) (pins : List (Addr × Obj)) (s : Shared) (σ : St) (H : Hp) (Q : Bool → Hp → Prop), Inv X pins σ H s → t σ H Q → wpAny (model X.prog X.w) X.A (isTrue e X.env whole) (TP X pins σ Q) X.xe s
theorem PW.pt {X : Cx} {e : Expr} {t : TT} (h : PW X e t) : PT X e t := h _
/-- an argument list (no star), from the left -/
def PA (X : Cx) (es : List Expr) (t : TA) : Prop :=
  ∀ (pos : Pos) (pins : List (Addr × Obj)) (s : Shared) (σ : St) (H : Hp) (Q : List V → Hp → Prop), Inv X pins σ H s → t σ H Q → wpAny (model X.prog X.w) X.A (spliced (backTo pos (starEach es X.env))) (AP X pins σ Q) X.xe s
def PS (X : Cx) (st : Stmt) (t : TS) : Prop :=
  ∀ (pins : List (Addr × Obj)) (s : Shared) (σ : St) (H : Hp) (D : Ends), Inv X pins σ H s → t D σ H → wpAny (model X.prog X.w) X.A (exec st X.env) (SP X pins D) X.xe s
def PSs (X : Cx) (st : List Stmt) (t : TS) : Prop :=
  ∀ (pins : List (Addr × Obj)) (s : Shared) (σ : St) (H : Hp) (D : Ends), Inv X pins σ H s → t D σ H → wpAny (model X.prog X.w) X.A (execs st X.env) (SP X pins D) X.xe s
/-- weaken the end -/
theorem thn {α : Type} {t : Sem α} {Q Q' : α → Shared → Prop} {M : Model} {A : Around} {E : Value → Shared → Prop} {s : Shared} (h : wpAny M A t Q E s) (hQ : ∀ a s, Q a s → Q' a s) : wpAny M A t Q' E s := wpAny_mono h hQ fun _ _ x => x
end L2

namespace L2
open PySem PySem.Spec PyProof.Rows
section
variable {X : Cx}

/-! ### names and constants -/
def tVar (i : Nat) : TE := fun σ H Q => ∃ v, σ[i]? = some (some v) ∧ Q v H
def tC (v : V) : TE := fun _ H Q => Q v H
theorem pe_var {i : Nat} {x : Str} {pos : Pos} (hN : X.N[i]? = some x) (hv : Vis X.env.scope x) (hd : (x == ("__debug__" : Str)) = false := by decide) (hcd : (x == ("__classdict__" : Str)) = false := by decide) : PE X (.Name x pos) (tVar i) := by
  intro pins s σ H Q I h
  obtain ⟨v, e, h⟩ := h
  obtain ⟨m, hn, hl⟩ := I.loc
  obtain ⟨u, r, l⟩ := hl i x v hN e hv
  have fin : EP X pins σ Q u s := ⟨v, H, I, r, h⟩
  rcases l with ⟨hk, hm⟩ | ⟨hk, c, hc, hcell⟩
  · exact wpAny_Name (wpAny_loadName_local I.ok.kind hk hn hm fin) hd
  · rcases hk with hk | hk
    · exact wpAny_Name (wpAny_loadName_cell I.ok.kind hk hc hcell fin) hd
    · exact wpAny_Name (wpAny_loadName_free I.ok.kind hk hc hcell fin hcd) hd
theorem pe_int {i j pos} : PE X (.Constant (.int i) j pos) (tC (.int i)) := fun _ _ _ H _ I h => wpAny_Constant_int ⟨.int i, H, I.tok _, ⟨_, rfl⟩, h⟩
theorem pe_bl {b j pos} : PE X (.Constant (.bool b) j pos) (tC (.bl b)) := fun _ _ _ H _ I h => Constant_bool ⟨.bl b, H, I, rfl, h⟩
theorem pe_non {j pos} : PE X (.Constant .none j pos) (tC .non) := fun _ _ _ H _ I h => Constant_none ⟨.non, H, I, rfl, h⟩
theorem pe_str {x j pos} : PE X (.Constant (.str x) j pos) (tC (.str x)) := fun _ _ _ H _ I h => Calls.Constant_str ⟨.str x, H, I.tok _, ⟨_, rfl⟩, h⟩

/-- a global name of the def -/
def Gl (X : Cx) (x : Str) : Prop := X.env.kindOf x = some .globalImplicit
theorem ld_glob {E : Value → Shared → Prop} {pins : List (Addr × Obj)} {s : Shared} {σ : St} {H : Hp} {x : Str} {u : Value} {pos : Pos} {Q : Value → Shared → Prop} (I : Inv X pins σ H s) (hg : Gl X x) (hm : X.mg x = some u) (h : Q u s)
    (hd : (x == ("__debug__" : Str)) = false := by decide) : wpAny (model X.prog X.w) X.A (eval (.Name x pos) X.env) Q E s :=
  Calls.Name_function_global I.ok.kind hg (Calls.loadGlobal_global (by rw [I.ok.glob]; exact I.mod.glob.keeps I.bk) hm h) hd
theorem ld_blt {E : Value → Shared → Prop} {pins : List (Addr × Obj)} {s : Shared} {σ : St} {H : Hp} {x : Str} {u : Value} {pos : Pos} {Q : Value → Shared → Prop} (I : Inv X pins σ H s) (hg : Gl X x) (hm : X.mg x = none) (hv : bootBuiltins x = some u) (h : Q u s)
    (hn : x ≠ "__name__" := by decide) (hd : (x == ("__debug__" : Str)) = false := by decide) : wpAny (model X.prog X.w) X.A (eval (.Name x pos) X.env) Q E s := by
  obtain ⟨mb, h1, h2⟩ := I.mod.blt
  exact Calls.Name_function_global I.ok.kind hg (Calls.loadGlobal_builtin (by rw [I.ok.glob]; exact I.mod.glob.keeps I.bk) hm (by rw [I.ok.blt]; exact h1.keeps I.bk) ((h2 x hn).trans hv) h) hd
/-- a module's constant, a class, a function, as a value -/
theorem pe_glob {x : Str} {v : V} {u : Value} {pos : Pos} (hg : Gl X x) (hm : X.mg x = some u) (r : RelV v u) (hd : (x == ("__debug__" : Str)) = false := by decide) : PE X (.Name x pos) (tC v) :=
  fun _ _ _ H _ I h => ld_glob I hg hm ⟨v, H, I, r, h⟩ hd
theorem pe_bltn {x : Str} {v : V} {u : Value} {pos : Pos} (hg : Gl X x) (hm : X.mg x = none) (hv : bootBuiltins x = some u) (r : RelV v u) (hn : x ≠ "__name__" := by decide) (hd : (x == ("__debug__" : Str)) = false := by decide) : PE X (.Name x pos) (tC v) :=
  fun _ _ _ H _ I h => ld_blt I hg hm hv ⟨v, H, I, r, h⟩ hn hd

/-! ### arithmetic -/
/-- two ints -/
def t2I (ta tb : TE) (k : Int → Int → Hp → Prop) : St → Hp → Prop := fun σ H => ta σ H fun x H1 => tb σ H1 fun y H2 => ∃ i j, x = .int i ∧ y = .int j ∧ k i j H2
def tAdd (ta tb : TE) : TE := fun σ H Q => t2I ta tb (fun i j H2 => Q (.int (i + j)) H2) σ H
def tSub (ta tb : TE) : TE := fun σ H Q => t2I ta tb (fun i j H2 => Q (.int (i - j)) H2) σ H
/-- the left factor below 2^64 -/
def tMul (ta tb : TE) : TE := fun σ H Q => t2I ta tb (fun i j H2 => (-(2 ^ 64) < i ∧ i < 2 ^ 64) ∧ Q (.int (i * j)) H2) σ H
variable {a b : Expr} {ta tb : TE} {pos : Pos}
/-! ### comparisons -/
def PC (X : Cx) (op : CmpOp) (a b : Expr) (t : TE) : Prop :=
  ∀ (pins : List (Addr × Obj)) (s : Shared) (σ : St) (H : Hp) (Q : VK), Inv X pins σ H s → t σ H Q →
    wpAny (model X.prog X.w) X.A (eval a X.env) (fun v s₁ => wpAny (model X.prog X.w) X.A (eval b X.env) (fun u s₂ => wpAny (model X.prog X.w) X.A (compareOp op v u) (EP X pins σ Q) X.xe s₂) X.xe s₁) X.xe s
theorem nobehind (b : Expr) {op : CmpOp} (h : op ≠ .In) (h2 : op ≠ .NotIn) : behindInMarks op b = false := by
  have e1 : (op == CmpOp.In) = false := by cases op <;> first | rfl | exact absurd rfl h
  have e2 : (op == CmpOp.NotIn) = false := by cases op <;> first | rfl | exact absurd rfl h2
  cases b <;> simp [behindInMarks, e1, e2]
def tCmp (p : Int → Int → Bool) (ta tb : TE) : TE := fun σ H Q => t2I ta tb (fun i j H2 => Q (.bl (p i j)) H2) σ H
abbrev tLt : TE → TE → TE := tCmp fun i j => decide (i < j)
abbrev tLe : TE → TE → TE := tCmp fun i j => decide (i ≤ j)
abbrev tGt : TE → TE → TE := tCmp fun i j => decide (j < i)
abbrev tGe : TE → TE → TE := tCmp fun i j => decide (j ≤ i)
abbrev tEqI : TE → TE → TE := tCmp fun i j => decide (i = j)
abbrev tNeI : TE → TE → TE := tCmp fun i j => !decide (i = j)
/-- is None -/
def tIsN (ta : TE) : TE := fun σ H Q => ta σ H fun x H1 => Q (.bl (decide (x = .non))) H1
def tNotN (ta : TE) : TE := fun σ H Q => ta σ H fun x H1 => Q (.bl (!decide (x = .non))) H1
theorem RelV.none_iff {x : V} {v : Value} (r : RelV x v) : (v == Value.none) = decide (x = .non) := by
  cases x with
  | non => cases r; rfl
  | bl _ => cases r; rfl
  | int _ => obtain ⟨t, rfl⟩ := r; rfl
  | str _ => obtain ⟨t, rfl⟩ := r; rfl
  | byt _ => obtain ⟨t, rfl⟩ := r; rfl
  | flt _ => obtain ⟨t, rfl⟩ := r; rfl
  | ref _ => cases r; rfl
  | ty _ => cases r; rfl
theorem pc_isN {j pos'} (ha : PE X a ta) : PC X .Is a (.Constant .none j pos') (tIsN ta) := by
  intro pins s σ H Q I h
  refine thn (ha pins s σ H _ I h) fun v s1 ⟨x, H1, I1, r1, q1⟩ => ?_
  exact Constant_none (is_none_gen ⟨.bl _, H1, I1, by rw [r1.none_iff]; rfl, q1⟩)
theorem pc_notN {j pos'} (ha : PE X a ta) : PC X .IsNot a (.Constant .none j pos') (tNotN ta) := by
  intro pins s σ H Q I h
  refine thn (ha pins s σ H _ I h) fun v s1 ⟨x, H1, I1, r1, q1⟩ => ?_
  exact Constant_none (isnot_none_gen ⟨.bl _, H1, I1, by rw [r1.none_iff]; rfl, q1⟩)
/-- a comparison as a value, as a test -/
def tB (t : TE) : TT := fun σ H Q => t σ H fun x H1 => ∃ c, x = .bl c ∧ Q c H1
theorem pe_cmp {op : CmpOp} {t : TE} (h : PC X op a b t) (h1 : behindInMarks op b = false := by first | exact nobehind _ (by decide) (by decide) | rfl) : PE X (.Compare a [op] [b] pos) t := fun pins s σ H Q I hw => wpAny_Compare1 (h pins s σ H Q I hw) h1
theorem pt_cmp {op : CmpOp} {t : TE} (h : PC X op a b t) (h1 : behindInMarks op b = false := by first | exact nobehind _ (by decide) (by decide) | rfl) : PT X (.Compare a [op] [b] pos) (tB t) := by
  intro pins s σ H Q I hw
  refine wpAny_isTrue_Compare1 (thn (h pins s σ H _ I hw) fun v s1 h1 => thn h1 fun u s2 h2 => thn h2 fun c s3 ⟨x, H1, I1, r1, q1⟩ => ?_) h1
  obtain ⟨d, rfl, q⟩ := q1
  cases r1
  exact wpAny_truthy_bool ⟨H1, I1, q⟩
/-- an expression whose value is a bool, as a test -/
theorem pt_val {e : Expr} {t : TE} (h : PE X e t) (he : ∀ whole, isTrue e X.env whole = (do let v ← whole; standAt e.pos; holding [v] (truthy v)) := by intro _; rfl) : PT X e (tB t) := by
  intro pins s σ H Q I hw
  refine isTrue_plain (thn (h pins s σ H _ I hw) fun v s1 ⟨x, H1, I1, r1, q1⟩ => ?_) (he _)
  obtain ⟨d, rfl, q⟩ := q1
  cases r1
  exact wpAny_truthy_bool ⟨H1, I1, q⟩

/-! ### and, or, not -/
variable {tA tB' : TT} {rest : List Expr}
def tAnd (t u : TT) : TT := fun σ H Q => t σ H fun c H1 => if c = true then u σ H1 Q else Q false H1
def tOr (t u : TT) : TT := fun σ H Q => t σ H fun c H1 => if c = true then Q true H1 else u σ H1 Q
def tNot (t : TT) : TT := fun σ H Q => t σ H fun c H1 => Q (!c) H1
theorem pw_and1 (ha : PT X a tA) : PW X (.BoolOp .And [a] pos) tA := by
  intro wh pins s σ H Q I h
  refine isTrue_and (thn (ha pins s σ H Q I h) fun c s1 e => ?_)
  cases c with
  | true => exact isTrue_and_nil e
  | false => exact e
theorem pw_or1 (ha : PT X a tA) : PW X (.BoolOp .Or [a] pos) tA := by
  intro wh pins s σ H Q I h
  refine isTrue_or (thn (ha pins s σ H Q I h) fun c s1 e => ?_)
  cases c with
  | false => exact isTrue_or_nil e
  | true => exact e
theorem pw_and (ha : PT X a tA) (hb : PW X (.BoolOp .And (b :: rest) pos) tB') : PW X (.BoolOp .And (a :: b :: rest) pos) (tAnd tA tB') := by
  intro wh pins s σ H Q I h
  refine isTrue_and (thn (ha pins s σ H _ I h) fun c s1 ⟨H1, I1, q1⟩ => ?_)
  cases c with
  | true => exact hb wh pins s1 σ H1 Q I1 q1
  | false => exact ⟨H1, I1, q1⟩
theorem pw_or (ha : PT X a tA) (hb : PW X (.BoolOp .Or (b :: rest) pos) tB') : PW X (.BoolOp .Or (a :: b :: rest) pos) (tOr tA tB') := by
  intro wh pins s σ H Q I h
  refine isTrue_or (thn (ha pins s σ H _ I h) fun c s1 ⟨H1, I1, q1⟩ => ?_)
  cases c with
  | true => exact ⟨H1, I1, q1⟩
  | false => exact hb wh pins s1 σ H1 Q I1 q1
theorem pt_not (ha : PT X a tA) : PT X (.UnaryOp .Not a pos) (tNot tA) := by
  intro pins s σ H Q I h
  exact isTrue_not (ha pins s σ H (fun c H1 => Q (!c) H1) I h)
/-- .. as values (bools) -/
def tAndV (ta tb : TE) : TE := fun σ H Q => ta σ H fun x H1 => ∃ c, x = .bl c ∧ if c = true then tb σ H1 Q else Q (.bl false) H1
def tOrV (ta tb : TE) : TE := fun σ H Q => ta σ H fun x H1 => ∃ c, x = .bl c ∧ if c = true then Q (.bl true) H1 else tb σ H1 Q
def tNotV (ta : TE) : TE := fun σ H Q => ta σ H fun x H1 => ∃ c, x = .bl c ∧ Q (.bl (!c)) H1
theorem pe_one {op} {t : TE} (h : PE X a t) : PE X (.BoolOp op [a] pos) t := fun pins s σ H Q I hw => BoolOp_one (h pins s σ H Q I hw)
theorem pe_and (ha : PE X a ta) (hb : PE X (.BoolOp .And (b :: rest) pos) tb) : PE X (.BoolOp .And (a :: b :: rest) pos) (tAndV ta tb) := by
  intro pins s σ H Q I h
  refine BoolOp_and (thn (ha pins s σ H _ I h) fun v s1 ⟨x, H1, I1, r1, q1⟩ => ?_)
  obtain ⟨c, rfl, q1⟩ := q1
  cases r1
  refine wpAny_truthy_bool ?_
  cases c with
  | true => exact hb pins s1 σ H1 Q I1 q1
  | false => exact ⟨.bl false, H1, I1, rfl, q1⟩
theorem pe_or (ha : PE X a ta) (hb : PE X (.BoolOp .Or (b :: rest) pos) tb) : PE X (.BoolOp .Or (a :: b :: rest) pos) (tOrV ta tb) := by
  intro pins s σ H Q I h
  refine BoolOp_or (thn (ha pins s σ H _ I h) fun v s1 ⟨x, H1, I1, r1, q1⟩ => ?_)
  obtain ⟨c, rfl, q1⟩ := q1
  cases r1
  refine wpAny_truthy_bool ?_
  cases c with
  | false => exact hb pins s1 σ H1 Q I1 q1
  | true => exact ⟨.bl true, H1, I1, rfl, q1⟩
theorem pe_not (ha : PE X a ta) : PE X (.UnaryOp .Not a pos) (tNotV ta) := by
  intro pins s σ H Q I h
  refine UnaryOp_ (thn (ha pins s σ H _ I h) fun v s1 ⟨x, H1, I1, r1, q1⟩ => ?_)
  obtain ⟨c, rfl, q1⟩ := q1
  cases r1
  exact not_of (wpAny_truthy_bool ⟨.bl (!c), H1, I1, rfl, q1⟩)
/-- a if t else b -/
def tIf (t : TT) (ta tb : TE) : TE := fun σ H Q => t σ H fun c H1 => if c = true then ta σ H1 Q else tb σ H1 Q
theorem pe_ifExp {c : Expr} (hc : PT X c tA) (ha : PE X a ta) (hb : PE X b tb) : PE X (.IfExp c a b pos) (tIf tA ta tb) := by
  intro pins s σ H Q I h
  refine wpAny_IfExp (thn (hc pins s σ H _ I h) fun d s1 ⟨H1, I1, q1⟩ => ?_)
  cases d with
  | true => exact ha pins s1 σ H1 Q I1 q1
  | false => exact hb pins s1 σ H1 Q I1 q1
end
end L2

namespace L2
open PySem PySem.Spec PyProof.Rows

/-! ### a list, a tuple that is read: tracked, frozen, or an object of the module -/
def SqL (K : PySem.W.Frag) (H : Hp) (a : Addr) (xs : List V) : Prop :=
  Rd H a (.lst xs) ∨
    ∃ (o : Obj) (its : Array Value) (n : Nat), K.lookup a = some o ∧ o.cls = .type "list" ∧ o.dict = none ∧ o.data = .seq its n ∧ its.size ≤ sizeLine ∧ Vals xs its.toList
def SqT (K : PySem.W.Frag) (H : Hp) (a : Addr) (xs : List V) : Prop :=
  Rd H a (.tup xs) ∨
    ∃ (o : Obj) (its : Array Value) (n : Nat), K.lookup a = some o ∧ o.cls = .type "tuple" ∧ o.data = .seq its n ∧ its.size ≤ sizeLine ∧ Vals xs its.toList
def absV : Value → Option V
  | .none => some .non
  | .bool b => some (.bl b)
  | .int i _ => some (.int i)
  | .str x _ => some (.str x)
  | .bytes b _ => some (.byt b)
  | .float b _ => some (.flt b)
  | .ref a => some (.ref a)
  | .type n => some (.ty n)
  | _ => none
theorem RelV.abs {x : V} {u : Value} (r : RelV x u) : absV u = some x := by
  cases x with
  | non => cases r; rfl
  | bl _ => cases r; rfl
  | int _ => obtain ⟨t, rfl⟩ := r; rfl
  | str _ => obtain ⟨t, rfl⟩ := r; rfl
  | byt _ => obtain ⟨t, rfl⟩ := r; rfl
  | flt _ => obtain ⟨t, rfl⟩ := r; rfl
  | ref _ => cases r; rfl
  | ty _ => cases r; rfl
theorem RelV.inj {x y : V} {u : Value} (r : RelV x u) (q : RelV y u) : x = y := Option.some.inj (r.abs.symm.trans q.abs)
theorem Vals.inj : ∀ {xs ys : List V} {us : List Value}, Vals xs us → Vals ys us → xs = ys
  | _, _, _, .nil, .nil => rfl
  | _, _, _, .cons r t, .cons r' t' => by rw [r.inj r', Vals.inj t t']
section
variable {X : Cx} {pins : List (Addr × Obj)} {σ : St} {H : Hp} {s : Shared} {a : Addr} {xs ys : List V}
theorem SqL.of {K : PySem.W.Frag} (h : H a = some (.lst xs)) : SqL K H a xs := .inl (.inl h)
theorem SqT.of {K : PySem.W.Frag} (h : H a = some (.tup xs)) : SqT K H a xs := .inl (.inl h)
theorem Inv.list (I : Inv X pins σ H s) (h : SqL X.K H a xs) : ∃ its : List Value, Vals xs its ∧ PlainL s.heap a its.toArray ∧ xs.length ≤ sizeLine := by
  rcases h with h | ⟨o, its, n, hk, hc, hd, hs, hz, r⟩
  · obtain ⟨z, its, n, r, e⟩ := h.ok I.hok
    exact ⟨its, r, ⟨_, n, e, rfl, rfl, rfl⟩, z⟩
  · refine ⟨its.toList, r, ⟨o, n, I.kIn a o hk, hc, hd, by simpa using hs⟩, ?_⟩
    have e := r.length
    simp only [Array.length_toList] at e
    omega
theorem Inv.tuple (I : Inv X pins σ H s) (h : SqT X.K H a xs) : ∃ its : List Value, Vals xs its ∧ IsTup s.heap a its.toArray ∧ xs.length ≤ sizeLine := by
  rcases h with h | ⟨o, its, n, hk, hc, hs, hz, r⟩
  · obtain ⟨z, its, r, p⟩ := h.ok I.hok
    exact ⟨its, r, p.tup, z⟩
  · refine ⟨its.toList, r, ⟨o, I.kIn a o hk, hc, n, by simpa using hs⟩, ?_⟩
    have e := r.length
    simp only [Array.length_toList] at e
    omega
theorem Inv.list_inj (I : Inv X pins σ H s) (h : SqL X.K H a xs) (h' : SqL X.K H a ys) : xs = ys := by
  obtain ⟨its, r, ⟨o, n, e, _, _, d⟩, _⟩ := I.list h
  obtain ⟨its', r', ⟨o', n', e', _, _, d'⟩, _⟩ := I.list h'
  rw [e] at e'; cases e'
  rw [d] at d'
  injection d' with d1 _
  have : its = its' := by simpa using congrArg Array.toList d1
  subst this
  exact r.inj r'
theorem Inv.tuple_inj (I : Inv X pins σ H s) (h : SqT X.K H a xs) (h' : SqT X.K H a ys) : xs = ys := by
  obtain ⟨its, r, ⟨o, e, _, n, d⟩, _⟩ := I.tuple h
  obtain ⟨its', r', ⟨o', e', _, n', d'⟩, _⟩ := I.tuple h'
  rw [e] at e'; cases e'
  rw [d] at d'
  injection d' with d1 _
  have : its = its' := by simpa using congrArg Array.toList d1
  subst this
  exact r.inj r'
end

/-! ### another wish about exceptions -/
abbrev Cx.wish (X : Cx) (E : Value → Shared → Prop) : Cx := { X with xe := E }
/-- no exception leaves -/
abbrev Cx.nox (X : Cx) : Cx := X.wish fun _ _ => False
theorem Cx.Ok.wish {X : Cx} (ok : X.Ok) (E : Value → Shared → Prop) : (X.wish E).Ok :=
  ⟨ok.mod, ok.kind, ok.glob, ok.blt, ok.above, ok.inj, ok.has, ok.cab, ok.hd, ok.frames, ok.stk, ok.exf, ok.bs, ok.bsz, ok.noex, ok.exfs, ok.funs, ok.frf⟩
theorem Cx.Ok.unwish {X : Cx} {E : Value → Shared → Prop} (ok : (X.wish E).Ok) : X.Ok :=
  ⟨ok.mod, ok.kind, ok.glob, ok.blt, ok.above, ok.inj, ok.has, ok.cab, ok.hd, ok.frames, ok.stk, ok.exf, ok.bs, ok.bsz, ok.noex, ok.exfs, ok.funs, ok.frf⟩
section
variable {X : Cx} {pins : List (Addr × Obj)} {σ : St} {H : Hp} {s : Shared} {E : Value → Shared → Prop}
theorem Inv.wish (I : Inv X pins σ H s) (E : Value → Shared → Prop) : Inv (X.wish E) pins σ H s := ⟨I.ok.wish E, I.os, I.bare, I.base, I.loc, I.cell, I.free, I.freeC, I.pin, I.hok, I.len⟩
theorem Inv.unwish (I : Inv (X.wish E) pins σ H s) : Inv X pins σ H s := ⟨I.ok.unwish, I.os, I.bare, I.base, I.loc, I.cell, I.free, I.freeC, I.pin, I.hok, I.len⟩
theorem SP.unwish {D : Ends} {f : Flow} {s' : Shared} (h : SP (X.wish E) pins D f s') : SP X pins D f s' := by
  cases f with
  | next => obtain ⟨σ', H', I, q⟩ := h; exact ⟨σ', H', I.unwish, q⟩
  | brk => obtain ⟨σ', H', I, q⟩ := h; exact ⟨σ', H', I.unwish, q⟩
  | cont => obtain ⟨σ', H', I, q⟩ := h; exact ⟨σ', H', I.unwish, q⟩
  | ret u => obtain ⟨v, σ', H', I, r, q⟩ := h; exact ⟨v, σ', H', I.unwish, r, q⟩
theorem PE.nox {e : Expr} {t : TE} (h : PE X.nox e t) : PE X e t := fun pins s σ H Q I hw =>
  wpAny_mono (h pins s σ H Q (I.wish _) hw) (fun _ _ ⟨v, H', I', r, q⟩ => ⟨v, H', I'.unwish, r, q⟩) fun _ _ z => False.elim z
theorem PT.nox {e : Expr} {t : TT} (h : PT X.nox e t) : PT X e t := fun pins s σ H Q I hw =>
  wpAny_mono (h pins s σ H Q (I.wish _) hw) (fun _ _ ⟨H', I', q⟩ => ⟨H', I'.unwish, q⟩) fun _ _ z => False.elim z
theorem PSs.nox {st : List Stmt} {t : TS} (h : PSs X.nox st t) : PSs X st t := fun pins s σ H D I hw =>
  wpAny_mono (h pins s σ H D (I.wish _) hw) (fun _ _ q => q.unwish) fun _ _ z => False.elim z
end

/-! ### blocks and small statements -/
section
variable {X : Cx} {st : Stmt} {rest : List Stmt} {t u : TS} {e : Expr} {te : TE} {pos : Pos}
def tNext : TS := fun D σ H => D.nx σ H
def tSeq (t u : TS) : TS := fun D σ H => t { D with nx := u D } σ H
theorem pss_nil : PSs X [] tNext := fun _ _ σ H _ I h => wpAny_execs_nil ⟨σ, H, I, h⟩
theorem pss_cons (h1 : PS X st t) (h2 : PSs X rest u) : PSs X (st :: rest) (tSeq t u) := by
  intro pins s σ H D I h
  refine wpAny_execs_cons (thn (h1 pins s σ H { D with nx := u D } I h) fun f s1 q => ?_)
  cases f with
  | next =>
    obtain ⟨σ', H', I', q⟩ := q
    exact h2 pins s1 σ' H' D I' q
  | ret v => exact q
  | brk => exact q
  | cont => exact q
theorem pss_one (h1 : PS X st t) : PSs X [st] t := by
  intro pins s σ H D I h
  refine wpAny_execs_cons (thn (h1 pins s σ H D I h) fun f s1 q => ?_)
  cases f with
  | next => exact wpAny_execs_nil q
  | ret v => exact q
  | brk => exact q
  | cont => exact q
def tBreak : TS := fun D σ H => D.bk σ H
def tCont : TS := fun D σ H => D.ct σ H
/-- in a def's body nothing is shown -/
theorem Inv.quiet {pins : List (Addr × Obj)} {σ : St} {H : Hp} {s : Shared} (I : Inv X pins σ H s) : interactive X.env = false := by simp [interactive, I.ok.kind]
/-- an expression whose value is dropped -/
def tDrop (te : TE) : TS := fun D σ H => te σ H fun _ H1 => D.nx σ H1
theorem ps_expr (he : PE X e te) (hs : swapsWith e none pos.line X.env = pure false := by rfl) : PS X (.Expr e pos) (tDrop te) := by
  intro pins s σ H D I h
  exact wpAny_Expr_any (thn (he pins s σ H _ I h) fun v s1 ⟨x, H1, I1, r1, q1⟩ => ⟨σ, H1, I1, q1⟩) I.quiet hs
def tRet (te : TE) : TS := fun D σ H => te σ H D.rt
theorem ps_ret (he : PE X e te) : PS X (.Return (some e) pos) (tRet te) := by
  intro pins s σ H D I h
  exact wpAny_Return_some (thn (he pins s σ H _ I h) fun v s1 ⟨x, H1, I1, r1, q1⟩ => ⟨x, σ, H1, I1, r1, q1⟩)
def tRetN : TS := fun D _ H => D.rt .non H
def tIfS (c : TT) (t u : TS) : TS := fun D σ H => c σ H fun b H1 => if b = true then t D σ H1 else u D σ H1
theorem ps_if {c : Expr} {a b : List Stmt} {tc : TT} (hc : PT X c tc) (ha : PSs X a t) (hb : PSs X b u) : PS X (.If c a b pos) (tIfS tc t u) := by
  intro pins s σ H D I h
  refine wpAny_If (thn (hc pins s σ H _ I h) fun d s1 ⟨H1, I1, q1⟩ => ?_)
  cases d with
  | true => exact ha pins s1 σ H1 D I1 q1
  | false => exact hb pins s1 σ H1 D I1 q1
/-- code that the proof never comes to -/
def tNever : TS := fun _ _ _ => False
theorem ps_never : PS X st tNever := fun _ _ _ _ _ _ h => h.elim
end

/-! ### targets -/
abbrev TG := V → St → Hp → (St → Hp → Prop) → Prop
abbrev TGs := List V → St → Hp → (St → Hp → Prop) → Prop
def PG (X : Cx) (target : Expr) (t : TG) : Prop :=
  ∀ (pins : List (Addr × Obj)) (s : Shared) (σ : St) (H : Hp) (v : V) (u : Value) (Q : St → Hp → Prop), Inv X pins σ H s → RelV v u → t v σ H Q →
    wpAny (model X.prog X.w) X.A (assign target X.env u) (fun _ s' => ∃ σ' H', Inv X pins σ' H' s' ∧ Q σ' H') X.xe s
/-- several targets, one after another -/
def PGs (X : Cx) (ts : List Expr) (t : TGs) : Prop :=
  ∀ (pins : List (Addr × Obj)) (s : Shared) (σ : St) (H : Hp) (vs : List V) (us : List Value) (Q : St → Hp → Prop), Inv X pins σ H s → Vals vs us → t vs σ H Q →
    wpAny (model X.prog X.w) X.A (assignInOrder ((assignEach ts X.env).map (·.2)) us) (fun _ s' => ∃ σ' H', Inv X pins σ' H' s' ∧ Q σ' H') X.xe s
/-- o[i] = v, by values -/
abbrev TSet := V → V → V → Hp → (Hp → Prop) → Prop
def PSet (X : Cx) (t : TSet) : Prop :=
  ∀ (pins : List (Addr × Obj)) (s : Shared) (σ : St) (H : Hp) (o i v : V) (ov iv u : Value) (Q : Hp → Prop), Inv X pins σ H s → RelV o ov → RelV i iv → RelV v u → t o i v H Q →
    wpAny (model X.prog X.w) X.A (setItem ov iv u) (fun _ s' => ∃ H', Inv X pins σ H' s' ∧ Q H') X.xe s
/-- a op= b, by values -/
abbrev TIp := V → V → Hp → VK → Prop
def PIp (X : Cx) (op : Operator) (t : TIp) : Prop :=
  ∀ (pins : List (Addr × Obj)) (s : Shared) (σ : St) (H : Hp) (x y : V) (v u : Value) (Q : VK), Inv X pins σ H s → RelV x v → RelV y u → t x y H Q →
    wpAny (model X.prog X.w) X.A (inplaceOp op v u) (EP X pins σ Q) X.xe s
section
variable {X : Cx} {pos : Pos}
def gName (i : Nat) : TG := fun v σ H Q => Q (σ.set i (some v)) H
theorem pg_name {i : Nat} {x : Str} (hN : X.N.Nodup) (hi : X.N[i]? = some x) (hx : Loc X.env.scope x) (hf : X.fn x = true ∨ X.env.scope.names.lookup x = some .local := by first | exact .inl rfl | exact .inr rfl | assumption) : PG X (.Name x pos) (gName i) := by
  intro pins s σ H v u Q I r h
  exact wpAny_assign_Name (store_ok I hN hi hx r (fun s' I' => ⟨_, H, I', h⟩) hf)
def gNil : TGs := fun vs σ H Q => vs = [] ∧ Q σ H
def gCons (t : TG) (u : TGs) : TGs := fun vs σ H Q => ∃ v r, vs = v :: r ∧ t v σ H fun σ' H' => u r σ' H' Q
theorem pgs_nil : PGs X [] gNil := by
  intro pins s σ H vs us Q I r h
  obtain ⟨e, h⟩ := h
  subst e
  cases r
  exact assignInOrder_nil ⟨σ, H, I, h⟩
theorem pgs_cons {e : Expr} {es : List Expr} {t : TG} {u : TGs} (h1 : PG X e t) (h2 : PGs X es u)
    (hs : (assignEach (e :: es) X.env).map (·.2) = assign e X.env :: (assignEach es X.env).map (·.2) := by rfl) : PGs X (e :: es) (gCons t u) := by
  intro pins s σ H vs us Q I r h
  obtain ⟨v, vr, e1, h⟩ := h
  subst e1
  cases r with
  | cons r rr =>
    rw [hs]
    refine assignInOrder_cons (thn (h1 pins s σ H _ _ _ I r h) fun _ s1 ⟨σ1, H1, I1, q1⟩ => ?_)
    exact h2 pins s1 σ1 H1 _ _ Q I1 rr q1
/-- (a, b, ..) = a tuple of that length -/
def gTup (K : PySem.W.Frag) (n : Nat) (t : TGs) : TG := fun v σ H Q => ∃ a xs, v = .ref a ∧ SqT K H a xs ∧ xs.length = n ∧ t xs σ H Q
theorem pg_tup {es : List Expr} {k : Nat} {t : TGs} {n : Nat} (hc : X.calm = true) (h : PGs X es t)
    (hn : (assignEach es X.env).length = n := by rfl) (hst : (assignEach es X.env).findIdx? (·.1) = none := by rfl) : PG X (.Tuple es k pos) (gTup X.K n t) := by
  intro pins s σ H v u Q I r hw
  obtain ⟨a, xs, e1, hq, hl, hw⟩ := hw
  subst e1
  cases r
  obtain ⟨its, rv, ht, hz⟩ := I.tuple hq
  refine assign_Tuple_tuple (I.ok.hd hc) ht (by simp [hn, ← hl, rv.length]) hst fun h' hx => ?_
  have I1 : Inv X pins σ H { s with heap := h' } := I.kept (t' := s.toks) fun b o e => hx b o (Nat.ne_of_lt (Heap.lt_size e)) e
  exact h pins _ σ H xs _ Q I1 (by simpa using rv) hw
/-- o[i] = .. -/
def gSub (to ti : TE) (t : TSet) : TG := fun v σ H Q => to σ H fun o H1 => ti σ H1 fun i H2 => t o i v H2 fun H3 => Q σ H3
theorem pg_sub {o i : Expr} {to ti : TE} {t : TSet} (ho : PE X o to) (hi : PE X i ti) (hs : PSet X t)
    (ha : ∀ v, assign (.Subscript o i pos) X.env v = (do
      let ov ← holding [v] (eval o X.env)
      let iv ← holding [v, ov] (eval i X.env)
      standAt pos
      holding [v, ov, iv] (setItem ov iv v)
      release [v, ov, iv] []) := by intro _; rfl) : PG X (.Subscript o i pos) (gSub to ti t) := by
  intro pins s σ H v u Q I r h
  rw [ha]
  refine wpAny_bind (wpAny_holding (thn (ho pins s σ H _ I h) fun ov s1 ⟨x, H1, I1, r1, q1⟩ => ?_))
  refine wpAny_bind (wpAny_holding (thn (hi pins s1 σ H1 _ I1 q1) fun iv s2 ⟨y, H2, I2, r2, q2⟩ => ?_))
  refine wpAny_bind (wpAny_standAt (wpAny_bind (wpAny_holding (thn (hs pins s2 σ H2 x y v ov iv u _ I2 r1 r2 r q2) fun _ s3 ⟨H3, I3, q3⟩ => ?_))))
  exact wpAny_release ⟨σ, H3, I3, q3⟩
/-- target = value -/
def tAsg (te : TE) (g : TG) : TS := fun D σ H => te σ H fun x H1 => g x σ H1 D.nx
theorem ps_asg {tg e : Expr} {te : TE} {g : TG} (he : PE X e te) (hg : PG X tg g) (hs : swapsWithSole [tg] e pos.line X.env = pure false := by rfl) (hw : swappedStores [tg] e X.env = pure none := by rfl)
    (h1 : (assignEach [tg] X.env).map (·.2) = [assign tg X.env] := by rfl) : PS X (.Assign [tg] e pos) (tAsg te g) := by
  intro pins s σ H D I h
  refine wpAny_Assign_stores (thn (he pins s σ H _ I h) fun v s1 ⟨x, H1, I1, r1, q1⟩ => ?_) hs hw
  rw [h1]
  exact thn (hg pins s1 σ H1 x v _ I1 r1 q1) fun _ s2 q => q
/-- name = value -/
theorem ps_set {i : Nat} {x : Str} {e : Expr} {te : TE} {pos' : Pos} (hN : X.N.Nodup) (hi : X.N[i]? = some x) (hx : Loc X.env.scope x) (he : PE X e te) (hs : swapsWith e (some (.Name x pos')) pos.line X.env = pure false := by rfl) (hf : X.fn x = true ∨ X.env.scope.names.lookup x = some .local := by first | exact .inl rfl | exact .inr rfl | assumption) :
    PS X (.Assign [.Name x pos'] e pos) (tAsg te (gName i)) := by
  intro pins s σ H D I h
  refine wpAny_Assign_Name (thn (he pins s σ H _ I h) fun v s1 ⟨y, H1, I1, r1, q1⟩ => ?_) hs
  exact store_ok I1 hN hi hx r1 (fun s2 I2 => ⟨_, H1, I2, q1⟩) hf
/-- a, b = x, y with plain local names: stored from the right; the pair itself is not tracked (the opening rows as in PyProof/Rows/TupAssign.lean:23) -/
def tPar (i j : Nat) (ta : TA) : TS := fun D σ H => ta σ H fun vs H1 => ∃ v w, vs = [v, w] ∧ D.nx ((σ.set i (some v)).set j (some w)) H1
/-- name op= e -/
def tAug (i : Nat) (te : TE) (ti : TIp) : TS := fun D σ H => ∃ x, σ[i]? = some (some x) ∧ te σ H fun y H1 => ti x y H1 fun z H2 => D.nx (σ.set i (some z)) H2
/-- o[i] op= e -/
def tAugS (to ti te : TE) (tget : V → V → Hp → VK → Prop) (tip : TIp) (tset : TSet) : TS := fun D σ H => to σ H fun o H1 => ti σ H1 fun i H2 => tget o i H2 fun x H3 => te σ H3 fun y H4 => tip x y H4 fun z H5 => tset o i z H5 fun H6 => D.nx σ H6
/-- o[i], by values -/
def PGet (X : Cx) (t : V → V → Hp → VK → Prop) : Prop :=
  ∀ (pins : List (Addr × Obj)) (s : Shared) (σ : St) (H : Hp) (o i : V) (ov iv : Value) (Q : VK), Inv X pins σ H s → RelV o ov → RelV i iv → t o i H Q →
    wpAny (model X.prog X.w) X.A (getItem ov iv) (EP X pins σ Q) X.xe s
/-- ints -/
def ipI (f : Int → Int → Int) : TIp := fun x y H Q => ∃ i j, x = .int i ∧ y = .int j ∧ Q (.int (f i j)) H
end

/-! ### while -/
section
variable {X : Cx} {pos : Pos}
/-- the invariant W with its measure -/
def tWhile (c : TT) (tb : TS) : TS := fun D σ H => ∃ W : Nat → St → Hp → Prop, (∃ m, W m σ H) ∧ ∀ m σ H, W m σ H →
  c σ H fun b H1 => if b = true then ∃ N : St → Hp → Prop, (∀ σ' H', N σ' H' → ∃ m', m' < m ∧ W m' σ' H') ∧ tb { D with nx := N, ct := N, bk := D.nx } σ H1 else D.nx σ H1
theorem ps_while {c : Expr} {body : List Stmt} {tc : TT} {tb : TS} (hp : PassesOwn (model X.prog X.w) X.A X.env X.xe) (hc : PT X c tc) (hb : PSs X body tb) : PS X (.While c body [] pos) (tWhile tc tb) := by
  intro pins s σ H D I h
  obtain ⟨W, ⟨m0, w0⟩, turn⟩ := h
  refine wpAny_While (codeAny_whileLoop (fun n s' => ∃ σ' H', Inv X pins σ' H' s' ∧ W n σ' H') ?_ m0 ⟨σ, H, I, w0⟩)
  rintro n s1 ⟨σ1, H1, I1, w1⟩
  refine wpAny_passesOwn hp (thn (hc pins s1 σ1 H1 _ I1 (turn n σ1 H1 w1)) fun b s2 ⟨H2, I2, q2⟩ => ?_)
  cases b with
  | true =>
    obtain ⟨N, hN, q2⟩ := q2
    rw [if_pos rfl]
    refine wpAny_passesOwn hp (thn (hb pins s2 σ1 H2 _ I2 q2) fun f s3 q3 => ?_)
    cases f with
    | next =>
      obtain ⟨σ3, H3, I3, n3⟩ := q3
      obtain ⟨m', hm, w3⟩ := hN σ3 H3 n3
      exact ⟨m', hm, σ3, H3, I3, w3⟩
    | cont =>
      obtain ⟨σ3, H3, I3, n3⟩ := q3
      obtain ⟨m', hm, w3⟩ := hN σ3 H3 n3
      exact ⟨m', hm, σ3, H3, I3, w3⟩
    | brk => exact q3
    | ret v => exact q3
  | false =>
    rw [if_neg Bool.false_ne_true]
    exact wpAny_execs_nil ⟨σ1, H2, I2, q2⟩
end

/-! ### what a loop or a comprehension walks -/
/-- at turn i: it yields x (the heap may grow), or it stops -/
structure It where
  go : Nat → Hp → Prop
  yld : Nat → Hp → V → Hp → Prop
  stop : Nat → Hp → Prop
/-- the iterator's own objects may turn: they are not the frame's, not pinned, younger than the entry (or a comprehension's own) -/
def FpOk (X : Cx) (pins : List (Addr × Obj)) (H : Hp) (b : Addr) : Prop :=
  H b = none ∧ b ≠ X.env.locals ∧ b ∉ X.fs ∧ (b ∈ X.ex ∨ X.s₀.heap.objs.size ≤ b) ∧ (∀ x c, X.env.cells.lookup x = some c → c ≠ b) ∧ ∀ p ∈ X.pn ++ pins, p.1 ≠ b
theorem Inv.fpOk {X : Cx} {pins : List (Addr × Obj)} {σ : St} {H H' : Hp} {s : Shared} {b : Addr} (I : Inv X pins σ H s) (hb : s.heap.objs.size ≤ b) (hn : H' b = none) : FpOk X pins H' b := by
  refine ⟨hn, Nat.ne_of_gt (Nat.lt_of_lt_of_le I.lt hb), I.nofs hb, .inr (Nat.le_trans I.sz hb), fun x c e z => ?_, fun p hp z => ?_⟩
  · obtain ⟨v, q⟩ := I.cell x c e
    exact absurd (Nat.lt_of_lt_of_le q.lt (by rw [z]; exact hb)) (Nat.lt_irrefl _)
  · exact absurd (Nat.lt_of_lt_of_le (Heap.lt_size (I.pin p hp).1) (by rw [z]; exact hb)) (Nat.lt_irrefl _)
structure Turn (P : Program) (w : World) (K : PySem.W.Frag) (tg : Expr) (J : It) (fp : List Addr) (it : Addr) (tn : Nat → Heap → Prop) : Prop where
  mem : it ∈ fp
  obj : ∀ i h, tn i h → ∀ b ∈ fp, ∃ o, h.get? b = some o ∧ ∀ v, o.data ≠ .cell v
  keep : ∀ i h h', tn i h → (∀ b ∈ fp, ∀ o, h.get? b = some o → h'.get? b = some o) → tn i h'
  item : ∀ (X : Cx), X.prog = P → X.w = w → X.K = K → X.calm = true → ∀ (i : Nat) (pins : List (Addr × Obj)) (s : Shared) (σ : St) (H : Hp) (E : Value → Shared → Prop), Inv X pins σ H s → (∀ b ∈ fp, FpOk X pins H b) → tn i s.heap → J.go i H →
    wpAny (model P w) X.A (pyNext (.ref it)) (fun r s1 => ∃ u, r = some u ∧
      wpAny (model P w) X.A (letOwnedTupleGo tg (.ref it) u) (fun _ s2 => ∃ x H', Inv X pins σ H' s2 ∧ RelV x u ∧ J.yld i H x H' ∧ tn (i + 1) s2.heap ∧ ∀ b ∈ fp, H' b = none) E s1) E s
  done : ∀ (X : Cx), X.prog = P → X.w = w → X.K = K → X.calm = true → ∀ (i : Nat) (pins : List (Addr × Obj)) (s : Shared) (σ : St) (H : Hp) (E : Value → Shared → Prop), Inv X pins σ H s → (∀ b ∈ fp, FpOk X pins H b) → tn i s.heap → J.stop i H →
    wpAny (model P w) X.A (pyNext (.ref it)) (fun r s1 => r = none ∧ Inv X pins σ H s1) E s
  self : ∀ (A : Around) (i : Nat) (s : Shared) (Q : Value → Shared → Prop) (E : Value → Shared → Prop), tn i s.heap → Q (.ref it) s → wpAny (model P w) A (pyIter (.ref it)) Q E s
abbrev TI := St → Hp → (It → Hp → Prop) → Prop
/-- an iterator has come -/
def PIE (X : Cx) (pins : List (Addr × Obj)) (σ : St) (tg : Expr) (R : It → Hp → Prop) (itv : Value) (s2 : Shared) : Prop :=
  ∃ (it : Addr) (fp : List Addr) (tn : Nat → Heap → Prop) (J : It) (H' : Hp), itv = .ref it ∧ Inv X pins σ H' s2 ∧ Turn X.prog X.w X.K tg J fp it tn ∧ tn 0 s2.heap ∧ (∀ b ∈ fp, FpOk X pins H' b) ∧ R J H'
def PI (X : Cx) (tg iter : Expr) (wi : TI) : Prop :=
  ∀ (pins : List (Addr × Obj)) (s : Shared) (σ : St) (H : Hp) (R : It → Hp → Prop), Inv X pins σ H s → wi σ H R →
    wpAny (model X.prog X.w) X.A (eval iter X.env) (fun v s1 => wpAny (model X.prog X.w) X.A (pyIter v) (PIE X pins σ tg R) X.xe s1) X.xe s

/-- the step ahead of the store is nothing for an iterator that keeps no tuple -/
theorem go_of {M : Model} {A : Around} {E : Value → Shared → Prop} {s : Shared} {tg : Expr} {it : Addr} {u : Value} {o : Obj} {n : String} {vs : Array Value} {Q : Unit → Shared → Prop} (ho : s.heap.get? it = some o) (hc : o.cls = .type n) (hd : o.data = .fields vs)
    (hn : ["enumerate", "zip", "dict_itemiterator", "dict_reverseitemiterator", "odict_iterator", "itertools.zip_longest", "itertools.pairwise"].contains n = false) (hQ : Q () s) : wpAny M A (letOwnedTupleGo tg (.ref it) u) Q E s := by
  unfold letOwnedTupleGo
  cases tg <;> first
    | exact wpAny_pure hQ
    | (cases u <;> first
        | exact wpAny_pure hQ
        | (refine wpAny_bind (wpAny_load ho ?_)
           rw [hc, hd]
           show wpAny M A (if (["enumerate", "zip", "dict_itemiterator", "dict_reverseitemiterator", "odict_iterator", "itertools.zip_longest", "itertools.pairwise"].contains n && vs[0]? == some (rawInt _)) = true then _ else _) Q E s
           rw [if_neg (by intro h; rw [hn, Bool.false_and] at h; cases h)]
           exact wpAny_pure hQ))

/-- the list at a, as it stands at each turn (a loop may append to it) -/
def Itl (K : PySem.W.Frag) (a : Addr) : It :=
  ⟨fun i H => ∃ xs x, SqL K H a xs ∧ xs[i]? = some x, fun i H x H' => H' = H ∧ ∀ xs, SqL K H a xs → xs[i]? = some x, fun i H => ∃ xs, SqL K H a xs ∧ xs.length ≤ i⟩
def Itt (K : PySem.W.Frag) (a : Addr) : It :=
  ⟨fun i H => ∃ xs x, SqT K H a xs ∧ xs[i]? = some x, fun i H x H' => H' = H ∧ ∀ xs, SqT K H a xs → xs[i]? = some x, fun i H => ∃ xs, SqT K H a xs ∧ xs.length ≤ i⟩
/-- lo, lo + 1, .. (n of them) -/
def Itr (lo : Int) (n : Nat) : It := ⟨fun i _ => i < n, fun i H x H' => H' = H ∧ x = .int (lo + i), fun i _ => n ≤ i⟩
theorem turn_list {P : Program} {w : World} {K : PySem.W.Frag} {tg : Expr} (a it : Addr) : Turn P w K tg (Itl K a) [it] it (fun i h => h.IsListIter it a i) where
  mem := by simp
  obj := fun i h st b hb => by
    have e : b = it := by simpa using hb
    subst e
    obtain ⟨o, e, c, d⟩ := st
    exact ⟨o, e, fun v z => by rw [d] at z; cases z⟩
  keep := fun i h h' st k => st.at fun o e => k it (by simp) o e
  item := by
    intro X hP hw hK hc i pins s σ H E I hf st hg
    subst hP hw hK
    obtain ⟨xs, x, hq, hx⟩ := hg
    obtain ⟨its, rv, p, hz⟩ := I.list hq
    obtain ⟨u, hu, ru⟩ := rv.get hx
    obtain ⟨f0, f1, f2, f3, f4, f5⟩ := hf it (by simp)
    refine wpAny_pyNext_list_item st p.isList (x := u) (by simpa using hu) fun h' st' sb => ?_
    have I1 : Inv X pins σ H { s with heap := h' } := I.turned (t' := s.toks) (fun b o hb e => (sb.2 b hb).trans e) f0 f1 f3 f4 f5
    obtain ⟨o, e, c, d⟩ := id st'
    exact ⟨u, rfl, go_of (s := { s with heap := h' }) e c d (by decide) ⟨x, H, I1, ru, ⟨rfl, fun ys hy => by rw [I.list_inj hy hq]; exact hx⟩, st', fun b hb => (hf b hb).1⟩⟩
  done := by
    intro X hP hw hK hc i pins s σ H E I hf st hg
    subst hP hw hK
    obtain ⟨xs, hq, hx⟩ := hg
    obtain ⟨its, rv, p, hz⟩ := I.list hq
    obtain ⟨f0, f1, f2, f3, f4, f5⟩ := hf it (by simp)
    have hl := rv.length
    exact wpAny_pyNext_list_end (I.ok.hd hc) st p.isList (by simp; omega) fun h' eb => ⟨rfl, I.turned (t' := s.toks) (fun b o hb e => eb b o hb e) f0 f1 f3 f4 f5⟩
  self := fun _ _ _ _ _ st h => wpAny_pyIter_listiter st h
theorem turn_tuple {P : Program} {w : World} {K : PySem.W.Frag} {tg : Expr} (a it : Addr) : Turn P w K tg (Itt K a) [it] it (fun i h => h.IsTupleIter it a i) where
  mem := by simp
  obj := fun i h st b hb => by
    have e : b = it := by simpa using hb
    subst e
    obtain ⟨o, e, c, d⟩ := st
    exact ⟨o, e, fun v z => by rw [d] at z; cases z⟩
  keep := fun i h h' st k => st.at fun o e => k it (by simp) o e
  item := by
    intro X hP hw hK hc i pins s σ H E I hf st hg
    subst hP hw hK
    obtain ⟨xs, x, hq, hx⟩ := hg
    obtain ⟨its, rv, p, hz⟩ := I.tuple hq
    obtain ⟨u, hu, ru⟩ := rv.get hx
    obtain ⟨f0, f1, f2, f3, f4, f5⟩ := hf it (by simp)
    refine wpAny_pyNext_tuple_item st (show s.heap.IsTuple a its.toArray from p) (x := u) (by simpa using hu) fun h' st' sb => ?_
    have I1 : Inv X pins σ H { s with heap := h' } := I.turned (t' := s.toks) (fun b o hb e => (sb.2 b hb).trans e) f0 f1 f3 f4 f5
    obtain ⟨o, e, c, d⟩ := id st'
    exact ⟨u, rfl, go_of (s := { s with heap := h' }) e c d (by decide) ⟨x, H, I1, ru, ⟨rfl, fun ys hy => by rw [I.tuple_inj hy hq]; exact hx⟩, st', fun b hb => (hf b hb).1⟩⟩
  done := by
    intro X hP hw hK hc i pins s σ H E I hf st hg
    subst hP hw hK
    obtain ⟨xs, hq, hx⟩ := hg
    obtain ⟨its, rv, p, hz⟩ := I.tuple hq
    obtain ⟨f0, f1, f2, f3, f4, f5⟩ := hf it (by simp)
    have hl := rv.length
    exact wpAny_pyNext_tuple_end (I.ok.hd hc) st (show s.heap.IsTuple a its.toArray from p) (by simp; omega) fun h' eb => ⟨rfl, I.turned (t' := s.toks) (fun b o hb e => eb b o hb e) f0 f1 f3 f4 f5⟩
  self := fun _ _ _ _ _ st h => wpAny_pyIter_tupleiter st h
theorem turn_range {P : Program} {w : World} {K : PySem.W.Frag} {tg : Expr} (it : Addr) (lo : Int) (n : Nat) : Turn P w K tg (Itr lo n) [it] it (fun i h => IsRangeIter h it (lo + (i : Nat) * 1) ((n : Int) - (i : Nat)) 1) where
  mem := by simp
  obj := fun i h st b hb => by
    have e : b = it := by simpa using hb
    subst e
    exact ⟨_, st, fun v z => by
      have z' : Data.fields _ = Data.cell v := z
      cases z'⟩
  keep := fun i h h' st k => k it (by simp) _ st
  item := by
    intro X hP hw hK hc i pins s σ H E I hf st hg
    subst hP hw hK
    obtain ⟨f0, f1, f2, f3, f4, f5⟩ := hf it (by simp)
    have W := Walks.range (prog := X.prog) (w := X.w) (I.ok.hd hc) it lo 1 n
    refine W.item i s _ _ hg st fun v h' tk hv st' kk => ?_
    obtain ⟨t, rfl⟩ := hv
    have I1 : Inv X pins σ H { s with heap := h', toks := tk } := I.turned (fun b o hb e => kk b o (by simpa using hb) e) f0 f1 f3 f4 f5
    refine ⟨_, rfl, go_of (s := { s with heap := h', toks := tk }) (n := "range_iterator") st' rfl rfl (by decide) ⟨.int (lo + i), H, I1, ⟨t, ?_⟩, ⟨rfl, rfl⟩, st', fun b hb => (hf b hb).1⟩⟩
    rw [Int.mul_one]
  done := by
    intro X hP hw hK hc i pins s σ H E I hf st hg
    subst hP hw hK
    obtain ⟨f0, f1, f2, f3, f4, f5⟩ := hf it (by simp)
    exact wpAny_pyNext_range_end (I.ok.hd hc) st (by have : n ≤ i := hg; omega) fun h' eb => ⟨rfl, I.turned (t' := s.toks) (fun b o hb e => eb b o hb e) f0 f1 f3 f4 f5⟩
  self := fun _ _ _ _ _ st h => wpAny_pyIter_rangeiter st h
end L2

namespace L2
open PySem PySem.Spec PyProof.Rows
section
variable {X : Cx} {tg : Expr}
def iList (K : PySem.W.Frag) (tl : TE) : TI := fun σ H R => tl σ H fun x H1 => ∃ a, x = .ref a ∧ (∃ xs, SqL K H1 a xs) ∧ R (Itl K a) H1
def iTup (K : PySem.W.Frag) (tl : TE) : TI := fun σ H R => tl σ H fun x H1 => ∃ a, x = .ref a ∧ (∃ xs, SqT K H1 a xs) ∧ R (Itt K a) H1
theorem pi_list {l : Expr} {tl : TE} (hl : PE X l tl) : PI X tg l (iList X.K tl) := by
  intro pins s σ H R I h
  refine thn (hl pins s σ H _ I h) fun v s1 ⟨x, H1, I1, r1, q1⟩ => ?_
  obtain ⟨a, e, ⟨xs, hq⟩, q⟩ := q1
  subst e
  cases r1
  obtain ⟨its, rv, p, hz⟩ := I1.list hq
  refine wpAny_pyIter_list p.isList ?_
  refine ⟨s1.heap.objs.size, [s1.heap.objs.size], _, _, H1, rfl, I1.kept (t' := s1.toks) fun b o e => Heap.get?_push_of_some _ e, turn_list a _, ⟨_, Heap.get?_push_size _ rfl, rfl, rfl⟩, fun b hb => ?_, q⟩
  have e : b = s1.heap.objs.size := by simpa using hb
  subst e
  exact I1.fpOk (Nat.le_refl _) (I1.hok.fresh (Nat.le_refl _))
theorem pi_tup {l : Expr} {tl : TE} (hl : PE X l tl) : PI X tg l (iTup X.K tl) := by
  intro pins s σ H R I h
  refine thn (hl pins s σ H _ I h) fun v s1 ⟨x, H1, I1, r1, q1⟩ => ?_
  obtain ⟨a, e, ⟨xs, hq⟩, q⟩ := q1
  subst e
  cases r1
  obtain ⟨its, rv, p, hz⟩ := I1.tuple hq
  refine wpAny_pyIter_tuple (show s1.heap.IsTuple a its.toArray from p) ?_
  refine ⟨s1.heap.objs.size, [s1.heap.objs.size], _, _, H1, rfl, I1.kept (t' := s1.toks) fun b o e => Heap.get?_push_of_some _ e, turn_tuple a _, ⟨_, Heap.get?_push_size _ rfl, rfl, rfl⟩, fun b hb => ?_, q⟩
  have e : b = s1.heap.objs.size := by simpa using hb
  subst e
  exact I1.fpOk (Nat.le_refl _) (I1.hok.fresh (Nat.le_refl _))
/-- a range object just made, walked -/
theorem range_it {pins : List (Addr × Obj)} {σ : St} {H : Hp} {s : Shared} {R : It → Hp → Prop} {E : Value → Shared → Prop} {lo hi : Int} {t u v : Tok} {tk : Nat} (I : Inv X pins σ H s) (h1 : -(2 ^ 62) ≤ lo) (h2 : lo < 2 ^ 62) (h3 : -(2 ^ 62) ≤ hi) (h4 : hi < 2 ^ 62)
    (q : R (Itr lo (hi - lo).toNat) H) : wpAny (model X.prog X.w) X.A (pyIter (.ref s.heap.objs.size)) (PIE X pins σ tg R) E { s with heap := s.heap.push { cls := .type "range", data := .fields #[.int lo t, .int hi u, .int 1 v] }, toks := tk } := by
  refine wpAny_pyIter_range (IsRange.new ..) (small_one h1 h2 h3 h4) ?_
  have I1 : Inv X pins σ H { s with heap := s.heap.push { cls := .type "range", data := .fields #[.int lo t, .int hi u, .int 1 v] }, toks := tk } := I.kept fun b o e => Heap.get?_push_of_some _ e
  refine ⟨(s.heap.push { cls := .type "range", data := .fields #[.int lo t, .int hi u, .int 1 v] }).objs.size, [(s.heap.push { cls := .type "range", data := .fields #[.int lo t, .int hi u, .int 1 v] }).objs.size], _, _, H, rfl,
    I1.kept (t' := tk) fun b o e => Heap.get?_push_of_some _ e, turn_range _ lo (hi - lo).toNat, ?_, fun b hb => ?_, q⟩
  · have e1 : lo + ((0 : Nat) : Int) * 1 = lo := by simp
    have e2 : (((hi - lo).toNat : Nat) : Int) - ((0 : Nat) : Int) = Builtin.Range.rangeSize lo hi 1 := by rw [rangeSize_one]; split <;> omega
    show IsRangeIter _ _ (lo + ((0 : Nat) : Int) * 1) ((((hi - lo).toNat : Nat) : Int) - ((0 : Nat) : Int)) 1
    rw [e1, e2]
    exact Heap.get?_push_size _ rfl
  · have e : b = (s.heap.push { cls := .type "range", data := .fields #[.int lo t, .int hi u, .int 1 v] }).objs.size := by simpa using hb
    subst e
    exact I1.fpOk (Nat.le_refl _) (I1.hok.fresh (Nat.le_refl _))
def iRng1 (ta : TA) : TI := fun σ H R => ta σ H fun vs H1 => ∃ j : Int, vs = [.int j] ∧ -(2 ^ 62) ≤ j ∧ j < 2 ^ 62 ∧ R (Itr 0 j.toNat) H1
def iRng2 (ta : TA) : TI := fun σ H R => ta σ H fun vs H1 => ∃ i j : Int, vs = [.int i, .int j] ∧ (-(2 ^ 62) ≤ i ∧ i < 2 ^ 62 ∧ -(2 ^ 62) ≤ j ∧ j < 2 ^ 62) ∧ R (Itr i (j - i).toNat) H1
theorem pi_range1 {a : Expr} {ta : TA} {p pos : Pos} (hg : Gl X "range") (hm : X.mg "range" = none) (ha : PA X [a] ta) (hs : starEach [a] X.env = [(false, eval a X.env)] := by rfl) : PI X tg (.Call (.Name "range" p) [a] [] pos) (iRng1 ta) := by
  intro pins s σ H R I h
  refine Call_ (ld_blt I hg hm boot_range (PyProof.Rows.callWith_type1 (thn (ha pos pins s σ H _ I h) fun us s1 ⟨vs, H1, I1, r1, q1⟩ => ?_) hs rfl))
  obtain ⟨j, e, q1, q2, q⟩ := q1
  subst e
  cases r1 with
  | cons r rr =>
    cases rr
    obtain ⟨t, rfl⟩ := r
    exact call_range_1 (range_it I1 (by omega) (by omega) q1 q2 (by simpa using q))
/-! ### for -/
/-- W: the invariant by the turn and a measure; N: what the body is to reach -/
def tFor (wi : TI) (g : TG) (tb : TS) : TS := fun D σ H => wi σ H fun J H1 => ∃ W : Nat → Nat → St → Hp → Prop, (∃ m, W 0 m σ H1) ∧ ∀ i m σ H, W i m σ H →
  (J.stop i H ∧ D.nx σ H) ∨ (J.go i H ∧ ∃ N : St → Hp → Prop, (∀ σ' H', N σ' H' → ∃ m', m' < m ∧ W (i + 1) m' σ' H') ∧ ∀ x H', J.yld i H x H' → g x σ H' fun σ2 H2 => tb { D with nx := N, ct := N, bk := D.nx } σ2 H2)
/-- the records at fp as they stand -/
def pinsAt (fp : List Addr) (h : Heap) : List (Addr × Obj) := fp.filterMap fun b => (h.get? b).map fun o => (b, o)
theorem mem_pinsAt {fp : List Addr} {h : Heap} {b : Addr} {o : Obj} (hb : b ∈ fp) (e : h.get? b = some o) : (b, o) ∈ pinsAt fp h := List.mem_filterMap.mpr ⟨b, hb, by rw [e]; rfl⟩
theorem of_pinsAt {fp : List Addr} {h : Heap} {p : Addr × Obj} (hp : p ∈ pinsAt fp h) : p.1 ∈ fp ∧ h.get? p.1 = some p.2 := by
  obtain ⟨b, hb, e⟩ := List.mem_filterMap.mp hp
  cases q : h.get? b with
  | none => rw [q] at e; cases e
  | some o =>
    rw [q] at e
    have e' : (b, o) = p := Option.some.inj e
    subst e'
    exact ⟨hb, q⟩
theorem Inv.pinned {pins : List (Addr × Obj)} {σ : St} {H : Hp} {s : Shared} {fp : List Addr} (I : Inv X pins σ H s) (hf : ∀ b ∈ fp, FpOk X pins H b) (ho : ∀ b ∈ fp, ∃ o, s.heap.get? b = some o ∧ ∀ v, o.data ≠ .cell v) : Inv X (pins ++ pinsAt fp s.heap) σ H s :=
  I.pins_of fun p hp => (List.mem_append.mp hp).elim (fun z => I.pin p (List.mem_append_right _ z)) fun z => by
    obtain ⟨hb, e⟩ := of_pinsAt z
    obtain ⟨f0, f1, f2, _⟩ := hf p.1 hb
    obtain ⟨o, e', d⟩ := ho p.1 hb
    rw [e] at e'; cases e'
    exact ⟨e, f0, f1, f2, d⟩
theorem Inv.unpinned {pins pl : List (Addr × Obj)} {σ : St} {H : Hp} {s : Shared} (I : Inv X (pins ++ pl) σ H s) : Inv X pins σ H s := I.pins_of fun p hp => I.pin p (List.mem_append_right _ (List.mem_append_left _ hp))
theorem ps_for {iter : Expr} {body : List Stmt} {wi : TI} {g : TG} {tb : TS} {pos : Pos} (hp : PassesOwn (model X.prog X.w) X.A X.env X.xe) (hc : X.calm = true) (hi : PI X tg iter wi) (hg : PG X tg g) (hb : PSs X body tb)
    (hs : ∀ x, foldedSetIterable iter X.env x = pure x := by intro _; rfl) : PS X (.For tg iter body [] pos) (tFor wi g tb) := by
  intro pins s σ H D I h
  refine wpAny_For (thn (hi pins s σ H _ I h) fun v s1 h1 => thn h1 fun itv s2 h2 => ?_) hs
  obtain ⟨it, fp, tn, J, H2, e, I2, T, st2, f2, W, ⟨m0, w0⟩, turn⟩ := h2
  subst e
  -- what stays true of the iterator's objects through the loop
  have stat : ∀ {H' : Hp}, (∀ b ∈ fp, H' b = none) → ∀ b ∈ fp, FpOk X pins H' b := fun hn b hb => ⟨hn b hb, (f2 b hb).2⟩
  refine codeAny_forLoop_any (fun n s' => ∃ i σ' H', Inv X pins σ' H' s' ∧ tn i s'.heap ∧ (∀ b ∈ fp, H' b = none) ∧ W i n σ' H') ?_ m0 ⟨0, σ, H2, I2, st2, fun b hb => (f2 b hb).1, w0⟩
  rintro n s3 ⟨i, σ3, H3, I3, st3, fr3, w3⟩
  rcases turn i n σ3 H3 w3 with ⟨stop, qn⟩ | ⟨go, N, hN, step⟩
  · refine wpAny_passesOwn hp (thn (T.done X rfl rfl rfl hc i pins s3 σ3 H3 X.xe I3 (stat fr3) st3 stop) fun r s4 ⟨hr, I4⟩ => ?_)
    subst hr
    exact wpAny_execs_nil ⟨σ3, H3, I4, qn⟩
  · refine wpAny_passesOwn hp (thn (T.item X rfl rfl rfl hc i pins s3 σ3 H3 X.xe I3 (stat fr3) st3 go) fun r s4 ⟨u, hr, h4⟩ => ?_)
    subst hr
    refine wpAny_passesOwn hp (thn h4 fun _ s5 ⟨x, H5, I5, r5, y5, st5, fr5⟩ => ?_)
    have I5' := I5.pinned (stat fr5) (T.obj _ _ st5)
    refine wpAny_passesOwn hp (thn (hg _ s5 σ3 H5 x u _ I5' r5 (step x H5 y5)) fun _ s6 ⟨σ6, H6, I6, q6⟩ => ?_)
    refine wpAny_passesOwn hp (thn (hb _ s6 σ6 H6 _ I6 q6) fun f s7 q7 => ?_)
    have again : ∀ {σ7 : St} {H7 : Hp}, Inv X (pins ++ pinsAt fp s5.heap) σ7 H7 s7 → N σ7 H7 → ∃ m, m < n ∧ ∃ i σ' H', Inv X pins σ' H' s7 ∧ tn i s7.heap ∧ (∀ b ∈ fp, H' b = none) ∧ W i m σ' H' := fun {σ7 H7} I7 n7 => by
      obtain ⟨m', hm, w7⟩ := hN σ7 H7 n7
      refine ⟨m', hm, i + 1, σ7, H7, I7.unpinned, T.keep _ _ _ st5 fun b hb o e => (I7.pin (b, o) (List.mem_append_right _ (List.mem_append_right _ (mem_pinsAt hb e)))).1, fun b hb => ?_, w7⟩
      obtain ⟨o, e, d⟩ := T.obj _ _ st5 b hb
      exact (I7.pin (b, o) (List.mem_append_right _ (List.mem_append_right _ (mem_pinsAt hb e)))).2.1
    cases f with
    | next => obtain ⟨σ7, H7, I7, n7⟩ := q7; exact again I7 n7
    | cont => obtain ⟨σ7, H7, I7, n7⟩ := q7; exact again I7 n7
    | brk => obtain ⟨σ7, H7, I7, q7⟩ := q7; exact ⟨σ7, H7, I7.unpinned, q7⟩
    | ret v => obtain ⟨x7, σ7, H7, I7, r7, q7⟩ := q7; exact ⟨x7, σ7, H7, I7.unpinned, r7, q7⟩
end

/-! ### the forms one uses -/
/-- over a list that the body leaves as it is -/
theorem for_list {K : PySem.W.Frag} {a : Addr} {xs : List V} {g : TG} {tb : TS} {D : Ends} {σ : St} {H : Hp} (Pv : Nat → St → Hp → Prop) (h0 : Pv 0 σ H) (hl : ∀ i σ H, i ≤ xs.length → Pv i σ H → SqL K H a xs)
    (hs : ∀ i x σ H, xs[i]? = some x → Pv i σ H → g x σ H fun σ2 H2 => tb { D with nx := Pv (i + 1), ct := Pv (i + 1), bk := D.nx } σ2 H2) (hd : ∀ σ H, Pv xs.length σ H → D.nx σ H) :
    ∃ W : Nat → Nat → St → Hp → Prop, (∃ m, W 0 m σ H) ∧ ∀ i m σ H, W i m σ H →
      ((Itl K a).stop i H ∧ D.nx σ H) ∨ ((Itl K a).go i H ∧ ∃ N : St → Hp → Prop, (∀ σ' H', N σ' H' → ∃ m', m' < m ∧ W (i + 1) m' σ' H') ∧ ∀ x H', (Itl K a).yld i H x H' → g x σ H' fun σ2 H2 => tb { D with nx := N, ct := N, bk := D.nx } σ2 H2) := by
  refine ⟨fun i m σ H => m = xs.length - i ∧ i ≤ xs.length ∧ Pv i σ H, ⟨xs.length, by simp, Nat.zero_le _, h0⟩, ?_⟩
  rintro i m σ H ⟨rfl, hi, p⟩
  have q := hl i σ H hi p
  by_cases hlt : i < xs.length
  · refine .inr ⟨⟨xs, xs[i], q, by simp [hlt]⟩, Pv (i + 1), fun σ' H' p' => ⟨xs.length - (i + 1), by omega, rfl, hlt, p'⟩, fun x H' y => ?_⟩
    obtain ⟨e, y⟩ := y
    subst e
    exact hs i x σ _ (y xs q) p
  · have e : i = xs.length := by omega
    subst e
    exact .inl ⟨⟨xs, q, Nat.le_refl _⟩, hd σ H p⟩
theorem for_tup {K : PySem.W.Frag} {a : Addr} {xs : List V} {g : TG} {tb : TS} {D : Ends} {σ : St} {H : Hp} (Pv : Nat → St → Hp → Prop) (h0 : Pv 0 σ H) (hl : ∀ i σ H, i ≤ xs.length → Pv i σ H → SqT K H a xs)
    (hs : ∀ i x σ H, xs[i]? = some x → Pv i σ H → g x σ H fun σ2 H2 => tb { D with nx := Pv (i + 1), ct := Pv (i + 1), bk := D.nx } σ2 H2) (hd : ∀ σ H, Pv xs.length σ H → D.nx σ H) :
    ∃ W : Nat → Nat → St → Hp → Prop, (∃ m, W 0 m σ H) ∧ ∀ i m σ H, W i m σ H →
      ((Itt K a).stop i H ∧ D.nx σ H) ∨ ((Itt K a).go i H ∧ ∃ N : St → Hp → Prop, (∀ σ' H', N σ' H' → ∃ m', m' < m ∧ W (i + 1) m' σ' H') ∧ ∀ x H', (Itt K a).yld i H x H' → g x σ H' fun σ2 H2 => tb { D with nx := N, ct := N, bk := D.nx } σ2 H2) := by
  refine ⟨fun i m σ H => m = xs.length - i ∧ i ≤ xs.length ∧ Pv i σ H, ⟨xs.length, by simp, Nat.zero_le _, h0⟩, ?_⟩
  rintro i m σ H ⟨rfl, hi, p⟩
  have q := hl i σ H hi p
  by_cases hlt : i < xs.length
  · refine .inr ⟨⟨xs, xs[i], q, by simp [hlt]⟩, Pv (i + 1), fun σ' H' p' => ⟨xs.length - (i + 1), by omega, rfl, hlt, p'⟩, fun x H' y => ?_⟩
    obtain ⟨e, y⟩ := y
    subst e
    exact hs i x σ _ (y xs q) p
  · have e : i = xs.length := by omega
    subst e
    exact .inl ⟨⟨xs, q, Nat.le_refl _⟩, hd σ H p⟩
theorem for_range {lo : Int} {n : Nat} {g : TG} {tb : TS} {D : Ends} {σ : St} {H : Hp} (Pv : Nat → St → Hp → Prop) (h0 : Pv 0 σ H)
    (hs : ∀ i σ H, i < n → Pv i σ H → g (.int (lo + i)) σ H fun σ2 H2 => tb { D with nx := Pv (i + 1), ct := Pv (i + 1), bk := D.nx } σ2 H2) (hd : ∀ σ H, Pv n σ H → D.nx σ H) :
    ∃ W : Nat → Nat → St → Hp → Prop, (∃ m, W 0 m σ H) ∧ ∀ i m σ H, W i m σ H →
      ((Itr lo n).stop i H ∧ D.nx σ H) ∨ ((Itr lo n).go i H ∧ ∃ N : St → Hp → Prop, (∀ σ' H', N σ' H' → ∃ m', m' < m ∧ W (i + 1) m' σ' H') ∧ ∀ x H', (Itr lo n).yld i H x H' → g x σ H' fun σ2 H2 => tb { D with nx := N, ct := N, bk := D.nx } σ2 H2) := by
  refine ⟨fun i m σ H => m = n - i ∧ i ≤ n ∧ Pv i σ H, ⟨n, by simp, Nat.zero_le _, h0⟩, ?_⟩
  rintro i m σ H ⟨rfl, hi, p⟩
  by_cases hlt : i < n
  · refine .inr ⟨hlt, Pv (i + 1), fun σ' H' p' => ⟨n - (i + 1), by omega, rfl, hlt, p'⟩, fun x H' y => ?_⟩
    obtain ⟨e, y⟩ := y
    subst e y
    exact hs i σ _ hlt p
  · have e : i = n := by omega
    subst e
    exact .inl ⟨Nat.le_refl _, hd σ H p⟩
end L2

namespace L2
open PySem PySem.Spec PyProof.Rows

abbrev R2 := V → V → Hp → VK → Prop
/-- a two-place operation on values: f is binaryOp op, inplaceOp op or compareOp op -/
def OpR (X : Cx) (f : Value → Value → Sem Value) (r : R2) : Prop :=
  ∀ (pins : List (Addr × Obj)) (s : Shared) (σ : St) (H : Hp) (x y : V) (v u : Value) (Q : VK), Inv X pins σ H s → RelV x v → RelV y u → r x y H Q →
    wpAny (model X.prog X.w) X.A (f v u) (EP X pins σ Q) X.xe s
/-- a one-place operation -/
def UnR (X : Cx) (f : Value → Sem Value) (r : V → Hp → VK → Prop) : Prop :=
  ∀ (pins : List (Addr × Obj)) (s : Shared) (σ : St) (H : Hp) (x : V) (v : Value) (Q : VK), Inv X pins σ H s → RelV x v → r x H Q →
    wpAny (model X.prog X.w) X.A (f v) (EP X pins σ Q) X.xe s
/-- a call of a value that is known (a builtin, a type) with values -/
def CallR (X : Cx) (f : Value) (r : List V → Hp → VK → Prop) : Prop :=
  ∀ (pins : List (Addr × Obj)) (s : Shared) (σ : St) (H : Hp) (xs : List V) (us : List Value) (Q : VK), Inv X pins σ H s → Vals xs us → r xs H Q →
    wpAny (model X.prog X.w) X.A (call f us) (EP X pins σ Q) X.xe s
/-- a value's truth -/
def TruR (X : Cx) (r : V → Hp → (Bool → Hp → Prop) → Prop) : Prop :=
  ∀ (pins : List (Addr × Obj)) (s : Shared) (σ : St) (H : Hp) (x : V) (v : Value) (Q : Bool → Hp → Prop), Inv X pins σ H s → RelV x v → r x H Q →
    wpAny (model X.prog X.w) X.A (truthy v) (TP X pins σ Q) X.xe s

def tOp (r : R2) (ta tb : TE) : TE := fun σ H Q => ta σ H fun x H1 => tb σ H1 fun y H2 => r x y H2 Q
def tUn (r : V → Hp → VK → Prop) (ta : TE) : TE := fun σ H Q => ta σ H fun x H1 => r x H1 Q
/-- ints in, under C, and a value out -/
def rI (C : Int → Int → Prop) (g : Int → Int → V) : R2 := fun x y H Q => ∃ i j, x = .int i ∧ y = .int j ∧ C i j ∧ Q (g i j) H
def rI0 (g : Int → Int → V) : R2 := fun x y H Q => ∃ i j, x = .int i ∧ y = .int j ∧ Q (g i j) H
def rU (g : Int → V) : V → Hp → VK → Prop := fun x H Q => ∃ i, x = .int i ∧ Q (g i) H

section
variable {X : Cx} {a b c : Expr} {ta tb tc : TE} {pos : Pos}

theorem binT (ha : PE X a ta) (hb : PE X b tb) {pins : List (Addr × Obj)} {s : Shared} {σ : St} {H : Hp} {R : V → V → Hp → Prop} (I : Inv X pins σ H s)
    (h : ta σ H fun x H1 => tb σ H1 fun y H2 => R x y H2) {Q : Value → Shared → Prop} {f : Value → Value → Sem Value}
    (hf : ∀ v u s2 x y H2, Inv X pins σ H2 s2 → RelV x v → RelV y u → R x y H2 → wpAny (model X.prog X.w) X.A (f v u) Q X.xe s2) :
    wpAny (model X.prog X.w) X.A (eval a X.env) (fun v s₁ => wpAny (model X.prog X.w) X.A (eval b X.env) (fun u s₂ => wpAny (model X.prog X.w) X.A (f v u) Q X.xe s₂) X.xe s₁) X.xe s := by
  refine thn (ha pins s σ H _ I h) fun v s1 ⟨x, H1, I1, r1, q1⟩ => ?_
  refine thn (hb pins s1 σ H1 _ I1 q1) fun u s2 ⟨y, H2, I2, r2, q2⟩ => ?_
  exact hf v u s2 x y H2 I2 r1 r2 q2

theorem pe_op {op : Operator} {r : R2} (ho : OpR X (binaryOp op) r) (ha : PE X a ta) (hb : PE X b tb) : PE X (.BinOp a op b pos) (tOp r ta tb) := by
  intro pins s σ H Q I h
  exact wpAny_BinOp (binT ha hb I h fun v u s2 x y H2 I2 rx ry q => ho pins s2 σ H2 x y v u Q I2 rx ry q)
theorem pe_un {op : UnaryOp} {r : V → Hp → VK → Prop} (ho : UnR X (unaryOp op) r) (ha : PE X a ta) : PE X (.UnaryOp op a pos) (tUn r ta) := by
  intro pins s σ H Q I h
  exact UnaryOp_ (thn (ha pins s σ H _ I h) fun v s1 ⟨x, H1, I1, r1, q1⟩ => ho pins s1 σ H1 x v Q I1 r1 q1)
/-! ### ints -/
theorem opI {f : Value → Value → Sem Value} {C : Int → Int → Prop} {g : Int → Int → Int}
    (rule : ∀ (i j : Int) (t u : Tok) (s : Shared) (Q : Value → Shared → Prop) (E : Value → Shared → Prop), C i j → Q (.int (g i j) s.toks) { s with toks := s.toks + 1 } → wpAny (model X.prog X.w) X.A (f (.int i t) (.int j u)) Q E s) :
    OpR X f (rI C fun i j => .int (g i j)) := by
  intro pins s σ H x y v u Q I rx ry h
  obtain ⟨i, j, rfl, rfl, hc, q⟩ := h
  obtain ⟨t, rfl⟩ := rx
  obtain ⟨t', rfl⟩ := ry
  exact rule i j t t' s _ _ hc ⟨.int (g i j), H, I.tok _, ⟨_, rfl⟩, q⟩
theorem opI0 {f : Value → Value → Sem Value} {g : Int → Int → Int}
    (rule : ∀ (i j : Int) (t u : Tok) (s : Shared) (Q : Value → Shared → Prop) (E : Value → Shared → Prop), Q (.int (g i j) s.toks) { s with toks := s.toks + 1 } → wpAny (model X.prog X.w) X.A (f (.int i t) (.int j u)) Q E s) :
    OpR X f (rI0 fun i j => .int (g i j)) := by
  intro pins s σ H x y v u Q I rx ry h
  obtain ⟨i, j, rfl, rfl, q⟩ := h
  obtain ⟨t, rfl⟩ := rx
  obtain ⟨t', rfl⟩ := ry
  exact rule i j t t' s _ _ ⟨.int (g i j), H, I.tok _, ⟨_, rfl⟩, q⟩
theorem opB0 {f : Value → Value → Sem Value} {g : Int → Int → Bool}
    (rule : ∀ (i j : Int) (t u : Tok) (s : Shared) (Q : Value → Shared → Prop) (E : Value → Shared → Prop), Q (.bool (g i j)) s → wpAny (model X.prog X.w) X.A (f (.int i t) (.int j u)) Q E s) :
    OpR X f (rI0 fun i j => .bl (g i j)) := by
  intro pins s σ H x y v u Q I rx ry h
  obtain ⟨i, j, rfl, rfl, q⟩ := h
  obtain ⟨t, rfl⟩ := rx
  obtain ⟨t', rfl⟩ := ry
  exact rule i j t t' s _ _ ⟨.bl (g i j), H, I, rfl, q⟩

def CDiv (i j : Int) : Prop := 0 < j ∧ j < 1073741824
def CDivN (i j : Int) : Prop := j ≠ 0 ∧ j.natAbs < 1073741824
def CPow (i j : Int) : Prop := 0 ≤ j ∧ j ≤ 1000000 ∧ i.natAbs < 2 ^ 64
def CMul (i j : Int) : Prop := (-(2 ^ 64) < i ∧ i < 2 ^ 64) ∨ (-(2 ^ 64) < j ∧ j < 2 ^ 64)
theorem CMul.ok {i j : Int} (h : CMul i j) : IntMulOk i j := by
  rcases h with ⟨h1, h2⟩ | ⟨h1, h2⟩
  · exact .of_left (intBits_le_64 h1 h2)
  · exact .of_right (intBits_le_64 h1 h2)
theorem op_add : OpR X (binaryOp .Add) (rI0 fun i j => .int (i + j)) := opI0 fun _ _ _ _ _ _ _ q => add_int q
theorem op_sub : OpR X (binaryOp .Sub) (rI0 fun i j => .int (i - j)) := opI0 fun _ _ _ _ _ _ _ q => sub_int q
theorem op_mul : OpR X (binaryOp .Mult) (rI CMul fun i j => .int (i * j)) := opI fun _ _ _ _ _ _ _ hc q => mul_int q hc.ok
/-- % by a positive divisor of any size -/
theorem op_mod : OpR X (binaryOp .Mod) (rI (fun _ j => 0 < j) fun i j => .int (i % j)) := opI fun i j _ _ _ _ _ hc q => by
  have h1 : (0 : Int) < j := hc
  exact mod_int' (by omega) (by rw [Int.fmod_eq_emod_of_nonneg i (by omega)]; exact q)
theorem unI {f : Value → Sem Value} {g : Int → Int}
    (rule : ∀ (i : Int) (t : Tok) (s : Shared) (Q : Value → Shared → Prop) (E : Value → Shared → Prop), Q (.int (g i) s.toks) { s with toks := s.toks + 1 } → wpAny (model X.prog X.w) X.A (f (.int i t)) Q E s) :
    UnR X f (rU fun i => .int (g i)) := by
  intro pins s σ H x v Q I rx h
  obtain ⟨i, rfl, q⟩ := h
  obtain ⟨t, rfl⟩ := rx
  exact rule i t s _ _ ⟨.int (g i), H, I.tok _, ⟨_, rfl⟩, q⟩
theorem un_neg : UnR X (unaryOp .USub) (rU fun i => .int (-i)) := unI fun _ _ _ _ _ q => neg_int q
/-! ### bools among ints: n += (a < b) -/
end

/-! ### comparisons -/
/-- the scalars that == tells apart as data does -/
def scal : V → V → Bool
  | .non, .non => true | .non, .int _ => true | .int _, .non => true | .non, .bl _ => true | .bl _, .non => true | .non, .str _ => true | .str _, .non => true
  | .int _, .int _ => true | .bl _, .bl _ => true | .str _, .str _ => true | .byt _, .byt _ => true
  | .int _, .str _ => true | .str _, .int _ => true | .bl _, .str _ => true | .str _, .bl _ => true
  | _, _ => false
def rEq : R2 := fun x y H Q => scal x y = true ∧ Q (.bl (decide (x = y))) H
def rNe : R2 := fun x y H Q => scal x y = true ∧ Q (.bl (!decide (x = y))) H

theorem dec_int {i j : Int} : decide (V.int i = V.int j) = (i == j) := by
  rw [Bool.eq_iff_iff]
  simp
theorem dec_bl {i j : Bool} : decide (V.bl i = V.bl j) = (i == j) := by
  rw [Bool.eq_iff_iff]
  simp
theorem dec_str {i j : Str} : decide (V.str i = V.str j) = (i == j) := by
  rw [Bool.eq_iff_iff]
  simp
theorem dec_byt {i j : Array UInt8} : decide (V.byt i = V.byt j) = (i.toList == j.toList) := by
  rw [Bool.eq_iff_iff]
  cases i
  cases j
  simp

section
variable {X : Cx} {a b c : Expr} {ta tb tc : TE} {pos : Pos}
theorem fin_bl {pins : List (Addr × Obj)} {σ : St} {H : Hp} {s : Shared} {Q : VK} {k k' : Bool} (I : Inv X pins σ H s) (q : Q (.bl k) H) (e : k = k') : EP X pins σ Q (.bool k') s := by
  subst e
  exact ⟨.bl k, H, I, rfl, q⟩
theorem op_eq : OpR X (compareOp .Eq) rEq := by
  intro pins s σ H x y v u Q I rx ry h
  obtain ⟨hs, q⟩ := h
  cases x with
  | non =>
    cases rx
    cases y with
    | non => cases ry; exact PySem.EqNone.eq_none_none (fin_bl I q (by simp))
    | bl j => cases ry; exact PySem.EqNone.eq_none_bool (fin_bl I q (by simp))
    | int j => obtain ⟨t', rfl⟩ := ry; exact PySem.EqNone.eq_none_int (fin_bl I q (by simp))
    | str j => obtain ⟨t', rfl⟩ := ry; exact PySem.EqNone.eq_none_str (fin_bl I q (by simp))
    | _ => exact absurd (show false = true from hs) Bool.false_ne_true
  | bl i =>
    cases rx
    cases y with
    | non => cases ry; exact PySem.EqNone.eq_bool_none (fin_bl I q (by simp))
    | bl j => cases ry; exact eq_bool (fin_bl I q dec_bl)
    | str j => obtain ⟨t', rfl⟩ := ry; exact PySem.EqMixed.eq_bool_str (fin_bl I q (by simp))
    | _ => exact absurd (show false = true from hs) Bool.false_ne_true
  | int i =>
    obtain ⟨t, rfl⟩ := rx
    cases y with
    | non => cases ry; exact PySem.EqNone.eq_int_none (fin_bl I q (by simp))
    | int j => obtain ⟨t', rfl⟩ := ry; exact eq_int (fin_bl I q dec_int)
    | str j => obtain ⟨t', rfl⟩ := ry; exact PySem.EqMixed.eq_int_str (fin_bl I q (by simp))
    | _ => exact absurd (show false = true from hs) Bool.false_ne_true
  | str i =>
    obtain ⟨t, rfl⟩ := rx
    cases y with
    | non => cases ry; exact PySem.EqNone.eq_str_none (fin_bl I q (by simp))
    | bl j => cases ry; exact PySem.EqMixed.eq_str_bool (fin_bl I q (by simp))
    | int j => obtain ⟨t', rfl⟩ := ry; exact PySem.EqMixed.eq_str_int (fin_bl I q (by simp))
    | str j => obtain ⟨t', rfl⟩ := ry; exact eq_str (fin_bl I q dec_str)
    | _ => exact absurd (show false = true from hs) Bool.false_ne_true
  | byt i =>
    obtain ⟨t, rfl⟩ := rx
    cases y with
    | byt j => obtain ⟨t', rfl⟩ := ry; exact PySem.W.eq_bytes (fin_bl I q dec_byt)
    | _ => exact absurd (show false = true from hs) Bool.false_ne_true
  | _ => cases y <;> exact absurd (show false = true from hs) Bool.false_ne_true
theorem op_ne : OpR X (compareOp .NotEq) rNe := by
  intro pins s σ H x y v u Q I rx ry h
  obtain ⟨hs, q⟩ := h
  cases x with
  | non =>
    cases rx
    cases y with
    | non => cases ry; exact PySem.EqNone.ne_none_none (fin_bl I q (by simp))
    | bl j => cases ry; exact PySem.EqNone.ne_none_bool (fin_bl I q (by simp))
    | int j => obtain ⟨t', rfl⟩ := ry; exact PySem.EqNone.ne_none_int (fin_bl I q (by simp))
    | str j => obtain ⟨t', rfl⟩ := ry; exact PySem.EqNone.ne_none_str (fin_bl I q (by simp))
    | _ => exact absurd (show false = true from hs) Bool.false_ne_true
  | bl i =>
    cases rx
    cases y with
    | non => cases ry; exact PySem.EqNone.ne_bool_none (fin_bl I q (by simp))
    | bl j => cases ry; exact ne_bool (fin_bl I q (congrArg not dec_bl))
    | str j => obtain ⟨t', rfl⟩ := ry; exact PySem.EqMixed.ne_bool_str (fin_bl I q (by simp))
    | _ => exact absurd (show false = true from hs) Bool.false_ne_true
  | int i =>
    obtain ⟨t, rfl⟩ := rx
    cases y with
    | non => cases ry; exact PySem.EqNone.ne_int_none (fin_bl I q (by simp))
    | int j => obtain ⟨t', rfl⟩ := ry; exact ne_int (fin_bl I q (congrArg not dec_int))
    | str j => obtain ⟨t', rfl⟩ := ry; exact PySem.EqMixed.ne_int_str (fin_bl I q (by simp))
    | _ => exact absurd (show false = true from hs) Bool.false_ne_true
  | str i =>
    obtain ⟨t, rfl⟩ := rx
    cases y with
    | non => cases ry; exact PySem.EqNone.ne_str_none (fin_bl I q (by simp))
    | bl j => cases ry; exact PySem.EqMixed.ne_str_bool (fin_bl I q (by simp))
    | int j => obtain ⟨t', rfl⟩ := ry; exact PySem.EqMixed.ne_str_int (fin_bl I q (by simp))
    | str j => obtain ⟨t', rfl⟩ := ry; exact ne_str (fin_bl I q (congrArg not dec_str))
    | _ => exact absurd (show false = true from hs) Bool.false_ne_true
  | byt i =>
    obtain ⟨t, rfl⟩ := rx
    cases y with
    | byt j => obtain ⟨t', rfl⟩ := ry; exact PySem.W.ne_bytes (fin_bl I q (congrArg not dec_byt))
    | _ => exact absurd (show false = true from hs) Bool.false_ne_true
  | _ => cases y <;> exact absurd (show false = true from hs) Bool.false_ne_true

theorem op_lt : OpR X (compareOp .Lt) (rI0 fun i j => .bl (decide (i < j))) := opB0 fun _ _ _ _ _ _ _ q => lt_int q
theorem op_le : OpR X (compareOp .LtE) (rI0 fun i j => .bl (decide (i ≤ j))) := opB0 fun _ _ _ _ _ _ _ q => le_int q
theorem op_gt : OpR X (compareOp .Gt) (rI0 fun i j => .bl (decide (j < i))) := opB0 fun _ _ _ _ _ _ _ q => gt_int q
theorem op_ge : OpR X (compareOp .GtE) (rI0 fun i j => .bl (decide (j ≤ i))) := opB0 fun _ _ _ _ _ _ _ q => ge_int q
theorem op_lt_str : OpR X (compareOp .Lt) (fun x y H Q => ∃ i j, x = .str i ∧ y = .str j ∧ Q (.bl (decide (i.cps.toList < j.cps.toList))) H) := by
  intro pins s σ H x y v u Q I rx ry h
  obtain ⟨i, j, rfl, rfl, q⟩ := h
  obtain ⟨t, rfl⟩ := rx
  obtain ⟨t', rfl⟩ := ry
  exact lt_str (fin_bl I q rfl)
/-- is, is not of two objects that are tracked lists or instances -/
def isObj : HO → Bool
  | .lst _ => true
  | .ins _ _ _ => true
  | _ => false
/-- two rules for one operation: by cases -/
theorem OpR.or {f : Value → Value → Sem Value} {r r' : R2} (h : OpR X f r) (h' : OpR X f r') : OpR X f (fun x y H Q => r x y H Q ∨ r' x y H Q) := by
  intro pins s σ H x y v u Q I rx ry q
  rcases q with q | q
  · exact h pins s σ H x y v u Q I rx ry q
  · exact h' pins s σ H x y v u Q I rx ry q

theorem nomark (b : Expr) {op : CmpOp} (h : op ≠ .In := by decide) (h2 : op ≠ .NotIn := by decide) : behindInMarks op b = false := by
  have e1 : (op == CmpOp.In) = false := by cases op <;> first | rfl | exact absurd rfl h
  have e2 : (op == CmpOp.NotIn) = false := by cases op <;> first | rfl | exact absurd rfl h2
  cases b <;> simp [behindInMarks, e1, e2]
/-- a comparison as a value; hm: nomark b, or (for in, not in) by with_unfolding_all rfl -/
theorem pe_cmpR {op : CmpOp} {r : R2} (ho : OpR X (compareOp op) r) (ha : PE X a ta) (hb : PE X b tb) (hm : behindInMarks op b = false) : PE X (.Compare a [op] [b] pos) (tOp r ta tb) := by
  intro pins s σ H Q I h
  exact wpAny_Compare1 (binT ha hb I h fun v u s2 x y H2 I2 rx ry q => ho pins s2 σ H2 x y v u Q I2 rx ry q) hm
/-- a reading of a value as a test -/
def tTest (t : TE) : TT := fun σ H Q => t σ H fun x H' => ∃ k, x = .bl k ∧ Q k H'
theorem pt_cmpR {op : CmpOp} {r : R2} (ho : OpR X (compareOp op) r) (ha : PE X a ta) (hb : PE X b tb) (hm : behindInMarks op b = false) : PT X (.Compare a [op] [b] pos) (tTest (tOp r ta tb)) := by
  intro pins s σ H Q I h
  refine wpAny_isTrue_Compare1 (thn (ha pins s σ H _ I h) fun v s1 ⟨x, H1, I1, r1, q1⟩ => thn (hb pins s1 σ H1 _ I1 q1) fun u s2 ⟨y, H2, I2, r2, q2⟩ =>
    thn (ho pins s2 σ H2 x y v u _ I2 r1 r2 q2) fun c s3 ⟨z, H3, I3, r3, k, e, q3⟩ => ?_) hm
  subst e
  cases r3
  exact wpAny_truthy_bool ⟨H3, I3, q3⟩
/-- a op1 b op2 c -/
def tChain (r r' : R2) (ta tb tc : TE) : TE := fun σ H Q => ta σ H fun x H1 => tb σ H1 fun y H2 => r x y H2 fun z H3 => ∃ k, z = .bl k ∧
  (if k = true then tc σ H3 fun w' H4 => r' y w' H4 Q else Q (.bl false) H3)
theorem pe_chain {op op' : CmpOp} {r r' : R2} (ho : OpR X (compareOp op) r) (ho' : OpR X (compareOp op') r') (ha : PE X a ta) (hb : PE X b tb) (hc : PE X c tc)
    (hm : lastMarks [op, op'] [b, c] = false := by with_unfolding_all rfl) : PE X (.Compare a [op, op'] [b, c] pos) (tChain r r' ta tb tc) := by
  intro pins s σ H Q I h
  refine Compare_chain (thn (ha pins s σ H _ I h) fun v s1 ⟨x, H1, I1, r1, q1⟩ => chain_link (thn (hb pins s1 σ H1 _ I1 q1) fun u s2 ⟨y, H2, I2, r2, q2⟩ =>
    thn (ho pins s2 σ H2 x y v u _ I2 r1 r2 q2) fun d s3 ⟨z, H3, I3, r3, k, e, q3⟩ => ?_)) hm
  subst e
  cases r3
  refine wpAny_truthy_bool ?_
  cases k with
  | false => exact ite_ff ⟨.bl false, H3, I3, rfl, q3⟩
  | true => exact ite_tt (chain_last (thn (hc pins s3 σ H3 _ I3 q3) fun w' s4 ⟨z', H4, I4, r4, q4⟩ => ho' pins s4 σ H4 y z' u w' Q I4 r2 r4 q4))
theorem pt_chain {op op' : CmpOp} {r r' : R2} (ho : OpR X (compareOp op) r) (ho' : OpR X (compareOp op') r') (ha : PE X a ta) (hb : PE X b tb) (hc : PE X c tc)
    (hm : lastMarks [op, op'] [b, c] = false := by with_unfolding_all rfl) : PT X (.Compare a [op, op'] [b, c] pos) (tTest (tChain r r' ta tb tc)) := by
  intro pins s σ H Q I h
  refine isTrue_chain (thn (ha pins s σ H _ I h) fun v s1 ⟨x, H1, I1, r1, q1⟩ => test_link (thn (hb pins s1 σ H1 _ I1 q1) fun u s2 ⟨y, H2, I2, r2, q2⟩ =>
    thn (ho pins s2 σ H2 x y v u _ I2 r1 r2 q2) fun d s3 ⟨z, H3, I3, r3, k, e, q3⟩ => ?_)) hm
  subst e
  cases r3
  refine wpAny_truthy_bool ?_
  cases k with
  | false =>
    obtain ⟨k', e', q'⟩ := q3
    cases e'
    exact ite_ff ⟨H3, I3, q'⟩
  | true =>
    refine ite_tt (test_last (thn (hc pins s3 σ H3 _ I3 q3) fun w' s4 ⟨z', H4, I4, r4, q4⟩ => thn (ho' pins s4 σ H4 y z' u w' _ I4 r2 r4 q4) fun d' s5 ⟨z2, H5, I5, r5, k2, e2, q5⟩ => ?_))
    subst e2
    cases r5
    exact wpAny_truthy_bool ⟨H5, I5, q5⟩

/-! ### truth -/
/-- a value's truth by the abstract heap -/
def TruV (K : PySem.W.Frag) (x : V) (H : Hp) (k : Bool) : Prop :=
  match x with
  | .non => k = false
  | .bl b => k = b
  | .int i => k = (i != 0)
  | .str y => y.length ≤ sizeLine ∧ k = ((y.length : Int) != 0)
  | .byt y => y.size ≤ sizeLine ∧ k = ((y.size : Int) != 0)
  | .ref p => (∃ xs, SqL K H p xs ∧ k = !xs.isEmpty) ∨ (∃ xs, SqT K H p xs ∧ k = !xs.isEmpty) ∨ ∃ kvs, H p = some (.dK kvs) ∧ k = !kvs.isEmpty
  | _ => False
theorem line63 : (sizeLine : Nat) < 2 ^ 63 := by rw [sizeLine_eq]; decide
/-! ### strs and bytes -/
def PlainIxT (b : Expr) : Prop := ∀ o i, subscripted b false o i = operate [o, i] (getItem o i)
/-! ### scalar builtins, by CallR -/
theorem vals1 {x : V} {us : List Value} (r : Vals [x] us) : ∃ u, us = [u] ∧ RelV x u := by
  cases r with
  | cons r1 r2 => cases r2; exact ⟨_, rfl, r1⟩
theorem vals2 {x y : V} {us : List Value} (r : Vals [x, y] us) : ∃ u w', us = [u, w'] ∧ RelV x u ∧ RelV y w' := by
  cases r with
  | cons r1 r2 =>
    cases r2 with
    | cons r3 r4 => cases r4; exact ⟨_, _, rfl, r1, r3⟩
theorem call_max2 (hc : X.calm = true) : CallR X (.builtin "max") (fun xs H Q => ∃ i j, xs = [.int i, .int j] ∧ Q (.int (if j > i then j else i)) H) := by
  intro pins s σ H xs us Q I r h
  obtain ⟨i, j, rfl, q⟩ := h
  obtain ⟨u, w', rfl, ⟨t, rfl⟩, ⟨t', rfl⟩⟩ := vals2 r
  refine max_two_ints (I.ok.hd hc) fun h' tk k => ⟨_, H, I.kept k, ?_, q⟩
  by_cases hj : j > i
  · rw [if_pos hj, if_pos hj]; exact ⟨_, rfl⟩
  · rw [if_neg hj, if_neg hj]; exact ⟨_, rfl⟩
theorem call_min2 (hc : X.calm = true) : CallR X (.builtin "min") (fun xs H Q => ∃ i j, xs = [.int i, .int j] ∧ Q (.int (if j < i then j else i)) H) := by
  intro pins s σ H xs us Q I r h
  obtain ⟨i, j, rfl, q⟩ := h
  obtain ⟨u, w', rfl, ⟨t, rfl⟩, ⟨t', rfl⟩⟩ := vals2 r
  refine min_two_ints (I.ok.hd hc) fun h' tk k => ⟨_, H, I.kept k, ?_, q⟩
  by_cases hj : j < i
  · rw [if_pos hj, if_pos hj]; exact ⟨_, rfl⟩
  · rw [if_neg hj, if_neg hj]; exact ⟨_, rfl⟩
/-- len of a str, a bytes, a list, a tuple -/
def LenV (K : PySem.W.Frag) (x : V) (H : Hp) (n : Nat) : Prop :=
  match x with
  | .str y => y.length ≤ sizeLine ∧ n = y.length
  | .byt y => y.size ≤ sizeLine ∧ n = y.size
  | .ref p => (∃ xs, SqL K H p xs ∧ n = xs.length) ∨ ∃ xs, SqT K H p xs ∧ n = xs.length
  | _ => False
end
end L2

namespace L2
open PySem PySem.Spec PyProof.Rows

/-! ### an instance, its attributes a map -/
structure ObjM (h : Heap) (x dx C : Addr) (mA : Str → Option Value) : Prop where
  obj : h.get? x = some (PySem.W.instObj C dx)
  ns : h.Ns1 dx mA
  ne : dx ≠ x

theorem lookIn_ns {h : Heap} {dx : Addr} {mA : Str → Option Value} (n : h.Ns1 dx mA) : ∃ od, h.get? dx = some od ∧ ∀ name, PySem.W.lookIn name od = some (mA name) := by
  obtain ⟨o, es, ep, ho, hd, hk, _, hm⟩ := n
  refine ⟨o, ho, fun name => ?_⟩
  have e := hm name
  unfold nsFind findBy at e
  rw [← Array.find?_toList] at e
  unfold PySem.W.lookIn
  rw [hd]
  dsimp only
  split
  · rename_i y q
    rw [q] at e
    exact congrArg some e
  · rename_i q
    rw [q] at e
    have a : es.toList.any (·.refKey) = false := by
      rw [List.any_eq_false]
      intro y hy
      obtain ⟨z, t, hkey⟩ := hk y (Array.mem_toList_iff.mp hy)
      simp [DictEntry.refKey, hkey]
    have a' : ¬ es.toList.any (·.refKey) = true := by rw [a]; exact Bool.false_ne_true
    rw [if_neg a']
    exact congrArg some e

theorem ObjM.look {h : Heap} {x dx C : Addr} {mA : Str → Option Value} (I : ObjM h x dx C mA) : ∃ od, PySem.W.InstAt h x (PySem.W.instObj C dx) C (some od) ∧ ∀ name, PySem.W.lookIn name od = some (mA name) :=
  let ⟨od, ho, hl⟩ := lookIn_ns I.ns
  ⟨od, ⟨I.obj, rfl, rfl, ho⟩, hl⟩

section
variable {prog : Program} {w : World} {A : Around} {E : Value → Shared → Prop} {s : Shared} {K : PySem.W.Frag} {x dx C f : Addr} {mA : Str → Option Value} {name : Str} {v : Value}

end

/-! ### the attributes as a list of pairs -/
def putF (f : Str) (v : V) : List (Str × V) → List (Str × V)
  | [] => [(f, v)]
  | (g, x) :: r => if g = f then (g, v) :: r else (g, x) :: putF f v r
theorem RelO.some_of {v : V} {o : Option Value} (r : RelO (some v) o) : ∃ u, o = some u ∧ RelV v u := by
  cases o with
  | none => exact (show False from r).elim
  | some u => exact ⟨u, rfl, r⟩
theorem RelO.none_of {o : Option Value} (r : RelO none o) : o = none := by
  cases o with
  | none => rfl
  | some u => exact (show False from r).elim
section
variable {P : Program} {w : World} {H H' : Hp} {h h' : Heap} {a C dx : Addr} {fs fs' : List (Str × V)}
theorem ins_get (hok : HOk P w H h) (e : H a = some (.ins C dx fs)) : ∃ mA, ObjM h a dx C mA ∧ (∀ f, RelO (fs.lookup f) (mA f)) ∧ PySem.Within mA (fs.map (·.1)) ∧ fs.length ≤ 1000 ∧ H dx = some (.own a) := by
  obtain ⟨d, z, ne, ob, mA, n, r, q⟩ := (show ObjOk P w H h a (.ins C dx fs) from hok a _ e)
  exact ⟨mA, ⟨ob, n, ne⟩, r, q, z, d⟩
end

/-! ### what of the text a class must have -/
structure Cls (K : PySem.W.Frag) (C : Addr) : Prop where
  pg : PySem.W.plainGet K C Str.empty = true
  hd : PySem.W.hasDictIn K C = true
  po : PySem.W.plainOver K C = true
  sa : PySem.W.findIn K (.ref C) "__setattr__" = some (some (.builtin "object.__setattr__"))
theorem Cls.get {K : PySem.W.Frag} {C : Addr} (c : Cls K C) (f : Str) : PySem.W.plainGet K C f = true := c.pg
/-- no class of it has the name -/
def NoAttr (K : PySem.W.Frag) (C : Addr) (f : Str) : Prop := PySem.W.findIn K (.ref C) f = some none
/-- a constant of the class -/
structure Con (K : PySem.W.Frag) (C : Addr) (f : Str) (v : V) (u : Value) : Prop where
  at_ : PySem.W.findIn K (.ref C) f = some (some u)
  rel : RelV v u
  get : PySem.W.specialIn K u "__get__" = some none
  cp : PySem.W.copiedNames.contains f = false
/-- a method: a plain def of the class or of one above it -/
structure Meth (K : PySem.W.Frag) (C : Addr) (m : Str) (f : Addr) : Prop where
  at_ : PySem.W.findIn K (.ref C) m = some (some (.ref f))
  fn : PySem.W.isFn K (.ref f) = true
  kp : PySem.W.keepIn K (.ref f) = true

section
variable {X : Cx} {pins : List (Addr × Obj)} {σ : St} {H : Hp} {s : Shared} {a C dx : Addr} {fs : List (Str × V)} {f : Str} {v : V} {A : Around} {E : Value → Shared → Prop}

/-- a new instance, tracked, without attributes -/
theorem Inv.made (I : Inv X pins σ H s) : Inv X pins σ (upd (upd H s.heap.objs.size (.own (s.heap.objs.size + 1))) (s.heap.objs.size + 1) (.ins C s.heap.objs.size []))
    { s with heap := (s.heap.push PySem.W.emptyDict).push (PySem.W.instObj C s.heap.objs.size) } := by
  have e1 : (s.heap.push PySem.W.emptyDict).get? s.heap.objs.size = some PySem.W.emptyDict := Heap.get?_push_size s.heap rfl
  have e2 : ((s.heap.push PySem.W.emptyDict).push (PySem.W.instObj C s.heap.objs.size)).get? (s.heap.objs.size + 1) = some (PySem.W.instObj C s.heap.objs.size) := by
    have := Heap.get?_push_size (s.heap.push PySem.W.emptyDict) (o := PySem.W.instObj C s.heap.objs.size) rfl
    rwa [Heap.size_push] at this
  have e3 : (s.heap.push PySem.W.emptyDict).Ns s.heap.objs.size (fun _ => none) := ⟨PySem.W.emptyDict, #[], _, e1, rfl, (fun e he => absurd he (by simp)), fun _ => rfl⟩
  have I1 := I.laid (a := s.heap.objs.size) (o := .own (s.heap.objs.size + 1)) (h' := s.heap.push PySem.W.emptyDict) (t' := s.toks) (fun b u q => Heap.get?_push_of_some _ q) (Nat.le_refl _) ⟨_, e1⟩
  refine I1.laid (a := s.heap.objs.size + 1) (o := .ins C s.heap.objs.size []) (t' := s.toks) (fun b u q => Heap.get?_push_of_some _ q) (Nat.le_of_eq (Heap.size_push _ _)) ?_
  have ne : s.heap.objs.size ≠ s.heap.objs.size + 1 := Nat.ne_of_lt (Nat.lt_succ_self _)
  refine ⟨by rw [upd_ne ne, upd_same], Nat.zero_le _, ne, e2, fun _ => none, (Heap.Ns1.of_empty e3).at fun o q => Heap.get?_push_of_some _ q, fun _ => True.intro, fun y hy => absurd rfl hy⟩

end

/-! ### readings and rules -/
/-- e.f, an attribute of the instance -/
def tFld (K : PySem.W.Frag) (ta : TE) (f : Str) : TE := fun σ H Q => ta σ H fun x H1 => ∃ a C dx fs v, x = .ref a ∧ H1 a = some (.ins C dx fs) ∧ Cls K C ∧ NoAttr K C f ∧ fs.lookup f = some v ∧ Q v H1
/-- e.f, a constant of the class -/
def tCon (K : PySem.W.Frag) (ta : TE) (f : Str) : TE := fun σ H Q => ta σ H fun x H1 => ∃ a C dx fs v u, x = .ref a ∧ H1 a = some (.ins C dx fs) ∧ Cls K C ∧ Con K C f v u ∧ fs.lookup f = none ∧ Q v H1
/-- e.f = value -/
def sFld (K : PySem.W.Frag) (ta tv : TE) (f : Str) : TS := fun D σ H => tv σ H fun y H1 => ta σ H1 fun x H2 => ∃ a C dx fs, x = .ref a ∧ H2 a = some (.ins C dx fs) ∧ Cls K C ∧ NoAttr K C f ∧ fs.length < 1000 ∧
  D.nx σ (upd H2 a (.ins C dx (putF f y fs)))
/-- an augmented operator on two values -/
def InOp (X : Cx) (op : Operator) (rd : V → V → Hp → VK → Prop) : Prop :=
  ∀ (pins : List (Addr × Obj)) (s : Shared) (σ : St) (H : Hp) (x y : V) (u v : Value) (Q : VK), Inv X pins σ H s → RelV x u → RelV y v → rd x y H Q → wpAny (model X.prog X.w) X.A (inplaceOp op u v) (EP X pins σ Q) X.xe s
/-- e.f op= value -/
def sFldAug (K : PySem.W.Frag) (ta tv : TE) (rd : V → V → Hp → VK → Prop) (f : Str) : TS := fun D σ H => ta σ H fun x H1 => ∃ a C dx fs v, x = .ref a ∧ H1 a = some (.ins C dx fs) ∧ Cls K C ∧ NoAttr K C f ∧ fs.lookup f = some v ∧
  tv σ H1 fun y H2 => rd v y H2 fun z H3 => ∃ dx' fs', H3 a = some (.ins C dx' fs') ∧ fs'.length < 1000 ∧ D.nx σ (upd H3 a (.ins C dx' (putF f z fs')))

section
variable {X : Cx} {o e value : Expr} {f : Str} {pos pos' tpos : Pos} {ta tv : TE}
def rAdd : V → V → Hp → VK → Prop := fun x y H Q => ∃ i j, x = .int i ∧ y = .int j ∧ Q (.int (i + j)) H
def rSub : V → V → Hp → VK → Prop := fun x y H Q => ∃ i j, x = .int i ∧ y = .int j ∧ Q (.int (i - j)) H
end

/-! ### isinstance -/
section
variable {X : Cx} {pins : List (Addr × Obj)} {σ : St} {H : Hp} {s : Shared} {A : Around} {E : Value → Shared → Prop} {Q : Value → Shared → Prop} {c : Value} {b : Bool}
/-- the type of a value, as the fragment's deciders take it; for an instance its class -/
inductive TyOf (K : PySem.W.Frag) (H : Hp) : V → Value → Prop where
  | non : TyOf K H .non (.type "NoneType")
  | bl (x : Bool) : TyOf K H (.bl x) (.type "bool")
  | int (i : Int) : TyOf K H (.int i) (.type "int")
  | str (x : Str) : TyOf K H (.str x) (.type "str")
  | flt (x : UInt64) : TyOf K H (.flt x) (.type "float")
  | lst {a : Addr} {xs : List V} (e : H a = some (.lst xs)) : TyOf K H (.ref a) (.type "list")
  | frz {a : Addr} {o : Obj} {xs : List V} (e : H a = some (.frz o (.lst xs))) : TyOf K H (.ref a) (.type "list")
  | tup {a : Addr} {xs : List V} (e : H a = some (.tup xs)) : TyOf K H (.ref a) (.type "tuple")
  | dK {a : Addr} {kvs : List (Key × V)} (e : H a = some (.dK kvs)) : TyOf K H (.ref a) (.type "dict")
  | dT {a : Addr} {kvs : List (List Key × V)} (e : H a = some (.dT kvs)) : TyOf K H (.ref a) (.type "dict")
  | ins {a C dx : Addr} {fs : List (Str × V)} (e : H a = some (.ins C dx fs)) (cl : Cls K C) (ha : PySem.W.findIn K (.ref C) "__class__" = some (some (.builtin "object.__class__")))
      (hn : PySem.W.specialIn K (.builtin "object.__class__") "__get__" = some (some (.builtin "getset_descriptor.__get__"))) (htk : PySem.W.takesIn K (.builtin "object.__class__") = some true)
      (hm : PySem.W.mroIn K C (.type "object") = some true) : TyOf K H (.ref a) (.ref C)
/-- isinstance(x, c) for one class c, a built-in or an own one: kitOne's answer -/
theorem isinst_ok {x : V} {u t : Value} (I : Inv X pins σ H s) (rx : RelV x u) (ty : TyOf X.K H x t) (e : PySem.W.kitOne X.K t c = some b) (h : ∀ tk, Q (.bool b) { s with toks := tk }) :
    wpAny (model X.prog X.w) A (call (.builtin "isinstance") [u, c]) Q E s := by
  cases ty with
  | non => cases (show u = Value.none from rx); exact PySem.W.kia_one PySem.W.kitx_none I.kIn True.intro e (fun z => nomatch z) h
  | bl y => cases (show u = Value.bool y from rx); exact PySem.W.kia_one PySem.W.kitx_bool I.kIn True.intro e (fun z => nomatch z) h
  | int i => obtain ⟨t, q⟩ := (show ∃ t, u = Value.int i t from rx); cases q; exact PySem.W.kia_one PySem.W.kitx_int I.kIn True.intro e (fun z => nomatch z) h
  | str y => obtain ⟨t, q⟩ := (show ∃ t, u = Value.str y t from rx); cases q; exact PySem.W.kia_one PySem.W.kitx_str I.kIn True.intro e (fun z => nomatch z) h
  | flt y => obtain ⟨t, q⟩ := (show ∃ t, u = Value.float y t from rx); cases q; exact PySem.W.kia_one PySem.W.kitx_float I.kIn True.intro e (fun z => nomatch z) h
  | @lst a xs ea =>
    cases (show u = Value.ref a from rx)
    obtain ⟨_, _, n, _, h1⟩ := (show ObjOk X.prog X.w H s.heap a (.lst xs) from I.hok a _ ea)
    exact PySem.W.kia_one PySem.W.kitx_list I.kIn ⟨_, h1, rfl⟩ e (fun z => nomatch z) h
  | @frz a ob xs ea =>
    cases (show u = Value.ref a from rx)
    obtain ⟨_, _, _, n, _, h1⟩ := (show ObjOk X.prog X.w H s.heap a (.frz ob (.lst xs)) from I.hok a _ ea)
    exact PySem.W.kia_one PySem.W.kitx_list I.kIn ⟨_, h1, rfl⟩ e (fun z => nomatch z) h
  | @tup a xs ea =>
    cases (show u = Value.ref a from rx)
    obtain ⟨_, _, _, p⟩ := (show ObjOk X.prog X.w H s.heap a (.tup xs) from I.hok a _ ea)
    obtain ⟨o, h1, h2, _⟩ := p
    exact PySem.W.kia_one PySem.W.kitx_tuple I.kIn ⟨o, h1, h2⟩ e (fun z => nomatch z) h
  | @dK a kvs ea =>
    cases (show u = Value.ref a from rx)
    obtain ⟨_, _, vs, _, p⟩ := (show ObjOk X.prog X.w H s.heap a (.dK kvs) from I.hok a _ ea)
    obtain ⟨o, es, ep, h1, h2, _⟩ := p
    exact PySem.W.kia_one PySem.W.kitx_dict I.kIn ⟨o, h1, h2.1⟩ e (fun z => nomatch z) h
  | @dT a kvs ea =>
    cases (show u = Value.ref a from rx)
    obtain ⟨_, _, xs, _, o, es, ep, h1, h2, _⟩ := (show ObjOk X.prog X.w H s.heap a (.dT kvs) from I.hok a _ ea)
    exact PySem.W.kia_one PySem.W.kitx_dict I.kIn ⟨o, h1, h2.1⟩ e (fun z => nomatch z) h
  | @ins a C dx fs ea cl ha hn htk hm =>
    cases (show u = Value.ref a from rx)
    obtain ⟨mA, O, _⟩ := ins_get I.hok ea
    obtain ⟨od, J, _⟩ := O.look
    exact PySem.W.kia_one (PySem.W.kitx_own (cl.get _) cl.hd ha hn htk hm) I.kIn J e (fun z => nomatch z) h
end
end L2

namespace L2
open PySem PySem.Spec PyProof.Rows

/-! ### room -/
structure Room (k : Nat) (A : Around) : Prop where
  hd : A.handled = none
  dp : A.depth + 3 * k + 5 < recursionLimit
  un : A.units + 16 * k + 200 < cLine
  gd : A.guards = some []
theorem Room.mono {j k : Nat} {A : Around} (r : Room k A) (h : j ≤ k) : Room j A := ⟨r.hd, by have := r.dp; omega, by have := r.un; omega, r.gd⟩
theorem Room.deeper {k : Nat} {A : Around} (r : Room (k + 1) A) (env : Env) : Room k (A.deeper env) :=
  ⟨r.hd, by have := r.dp; show A.depth + 1 + 3 * k + 5 < _; omega, by have := r.un; show A.units + 3 + 16 * k + 200 < _; omega, r.gd⟩
theorem Room.in1 {k : Nat} {A : Around} (r : Room (k + 1) A) : Room k A.in1 :=
  ⟨r.hd, by have := r.dp; show A.depth + 3 * k + 5 < _; omega, by have := r.un; show A.units + 1 + 16 * k + 200 < _; omega, r.gd⟩
theorem Room.depth {k : Nat} {A : Around} (r : Room k A) : A.depth < recursionLimit := by have := r.dp; omega
theorem Room.units {k : Nat} {A : Around} (r : Room k A) : A.units + 64 < cLine := by have := r.un; omega
/-! ### argument lists and displays -/
def tNil : TA := fun _ H Q => Q [] H
def tCons (ta : TE) (tr : TA) : TA := fun σ H Q => ta σ H fun x H1 => tr σ H1 fun xs H2 => Q (x :: xs) H2
section
variable {X : Cx} {e : Expr} {es : List Expr} {te : TE} {t : TA} {pos : Pos}
theorem pa_nil : PA X [] tNil := fun _ _ _ _ H Q I h => Calls.spliced_nil ⟨[], H, I, .nil, h⟩
theorem pa_cons (ha : PE X e te) (hr : PA X es t) (hs : starEach (e :: es) X.env = (false, eval e X.env) :: starEach es X.env := by rfl) : PA X (e :: es) (tCons te t) := by
  intro pos pins s σ H Q I h
  rw [hs]
  show wpAny _ _ (spliced ((false, eval e X.env) :: backTo pos (starEach es X.env))) _ _ s
  refine Calls.spliced_cons (thn (ha pins s σ H _ I h) fun u s1 ⟨x, H1, I1, r1, q1⟩ => ?_)
  exact thn (hr pos pins s1 σ H1 _ I1 q1) fun us s2 ⟨xs, H2, I2, r2, q2⟩ => ⟨x :: xs, H2, I2, .cons r1 r2, q2⟩

/-- a tuple, a list of written items -/
def tTup (t : TA) : TE := fun σ H Q => t σ H fun xs H1 => xs.length ≤ sizeLine ∧ ∀ p, H1 p = none → Q (.ref p) (upd H1 p (.tup xs))
def tLst (t : TA) : TE := fun σ H Q => t σ H fun xs H1 => xs.length ≤ sizeLine ∧ ∀ p, H1 p = none → Q (.ref p) (upd H1 p (.lst xs))
theorem pe_tup {x1} (h : PA X es t) : PE X (.Tuple es x1 pos) (tTup t) := by
  intro pins s σ H Q I hq
  refine wpAny_Tuple_spliced (thn (h pos pins s σ H _ I hq) fun us s1 ⟨xs, H1, I1, r, z, q⟩ => ⟨by rw [← r.length]; exact z, ?_⟩)
  have hf : H1 s1.heap.objs.size = none := I1.hok.fresh (Nat.le_refl _)
  refine ⟨.ref s1.heap.objs.size, upd H1 s1.heap.objs.size (.tup xs), I1.laid (t' := s1.toks) (fun b u e => Heap.get?_push_of_some _ e) (Nat.le_refl _) ?_, rfl, q _ hf⟩
  exact ⟨z, us, r, ⟨_, Heap.get?_push_size _ rfl, rfl, rfl, _, rfl⟩⟩
theorem pe_lst (h : PA X es t) : PE X (.List es pos) (tLst t) := by
  intro pins s σ H Q I hq
  refine wpAny_List_spliced (thn (h pos pins s σ H _ I hq) fun us s1 ⟨xs, H1, I1, r, z, q⟩ => ⟨by rw [← r.length]; exact z, ?_⟩)
  have hf : H1 s1.heap.objs.size = none := I1.hok.fresh (Nat.le_refl _)
  refine ⟨.ref s1.heap.objs.size, upd H1 s1.heap.objs.size (.lst xs), I1.laid (t' := s1.toks) (fun b u e => Heap.get?_push_of_some _ e) (Nat.le_refl _) ?_, rfl, q _ hf⟩
  exact ⟨z, us, 0, r, Heap.get?_push_size _ rfl⟩
end

/-! ### what a def promises -/
/-- a def's promise: the bound arguments in the parameters' order, the heap, the wanted end, the wanted exception -/
abbrev Sp := List V → Hp → VK → XK → Prop
/-- how an exception lies behind a call (file 08 gives it): the callers' frames, abstract heap and state ahead of the call, the wish, the exception, the state -/
abbrev CXT := List Env → Hp → Shared → XK → Value → Shared → Prop

/-- the state at a call -/
structure Env0 (P : Program) (w : World) (K : PySem.W.Frag) (mg : Str → Option Value) (base : Heap) (A : Around) (outer : List Env) (s : Shared) (H : Hp) : Prop where
  frames : A.frames = some outer
  mod : Mod K mg base
  bs : ∀ b o, base.get? b = some o → s.heap.get? b = some o ∧ H b = none
  bsz : base.objs.size ≤ s.heap.objs.size
  funs : s.heap.FunFrames base outer
  frf : ∀ b ∈ frs outer, H b = none
  hok : HOk P w H s.heap
  bare : AllBare s.gens
/-- a call's end -/
def CE (outer : List Env) (P : Program) (w : World) (H : Hp) (s : Shared) (Q : VK) (u : Value) (s' : Shared) : Prop :=
  ∃ v H', s'.os = s.os ∧ AllBare s'.gens ∧ Un (frs outer) [] H H' s.heap s'.heap ∧ HOk P w H' s'.heap ∧ RelV v u ∧ Q v H'
def CR (CX : CXT) (outer : List Env) (P : Program) (w : World) (H : Hp) (s : Shared) (Q : VK) (E : XK) (r : Result) (s' : Shared) : Prop :=
  match r with
  | .ok (.ret u) => CE outer P w H s Q u s'
  | .ok _ => False
  | .error e => CX outer H s E e s'
structure FnOk (P : Program) (w : World) (K : PySem.W.Frag) (mg : Str → Option Value) (base : Heap) (CX : CXT) (k : Nat) (f : Addr) (fd : FuncData) (ps : List Str) (sp : Sp) : Prop where
  len : ∀ vs H Q E, sp vs H Q E → vs.length = ps.length
  run : ∀ (A : Around) (outer : List Env) (s : Shared) (H : Hp) (args : Args) (us : List Value) (vs : List V) (Q : VK) (E : XK), Room k A → Env0 P w K mg base A outer s H → BindsTo s fd args (ps.zip us) → Vals vs us → sp vs H Q E →
    codeAny (model P w) A (.call (.ref f) args) (CR CX outer P w H s Q E) s
theorem FnOk.mono {P : Program} {w : World} {K : PySem.W.Frag} {mg : Str → Option Value} {base : Heap} {CX : CXT} {j k : Nat} {f : Addr} {fd : FuncData} {ps : List Str} {sp : Sp} (F : FnOk P w K mg base CX j f fd ps sp) (h : j ≤ k) :
    FnOk P w K mg base CX k f fd ps sp := ⟨F.len, fun A outer s H args us vs Q E hr => F.run A outer s H args us vs Q E (hr.mono h)⟩
/-- a weaker promise -/
theorem FnOk.imp {P : Program} {w : World} {K : PySem.W.Frag} {mg : Str → Option Value} {base : Heap} {CX : CXT} {k : Nat} {f : Addr} {fd : FuncData} {ps : List Str} {sp sp' : Sp} (F : FnOk P w K mg base CX k f fd ps sp)
    (h : ∀ vs H Q E, sp' vs H Q E → sp vs H Q E) : FnOk P w K mg base CX k f fd ps sp' :=
  ⟨fun vs H Q E q => F.len vs H Q E (h _ _ _ _ q), fun A outer s H args us vs Q E hr he hb hv hs => F.run A outer s H args us vs Q E hr he hb hv (h _ _ _ _ hs)⟩

theorem Env0.in1 {P : Program} {w : World} {K : PySem.W.Frag} {mg : Str → Option Value} {base : Heap} {A : Around} {outer : List Env} {s : Shared} {H : Hp} (e : Env0 P w K mg base A outer s H) :
    Env0 P w K mg base A.in1 outer s H := ⟨e.frames, e.mod, e.bs, e.bsz, e.funs, e.frf, e.hok, e.bare⟩

section
variable {X : Cx} {pins : List (Addr × Obj)} {σ : St} {H : Hp} {s s' : Shared}
/-- from a body: what a callee wants -/
theorem Inv.env0 (I : Inv X pins σ H s) : Env0 X.prog X.w X.K X.mg X.base X.A X.stack s H :=
  ⟨I.ok.frames, I.ok.mod, I.bs, Nat.le_trans I.ok.bsz I.sz, I.stack, I.stkFree, I.hok, I.bare⟩
/-- behind a call -/
theorem Inv.after {Q : VK} {u : Value} (I : Inv X pins σ H s) (h : CE X.stack X.prog X.w H s Q u s') : EP X pins σ Q u s' := by
  obtain ⟨v, H', os, bare, un, hok, r, q⟩ := h
  obtain ⟨hh, g, d, t, os'⟩ := s'
  obtain rfl : os' = s.os := os
  exact ⟨v, H', I.call (h' := hh) (g' := g) (d' := d) (t' := t) (ch := []) un hok bare (fun b z => absurd z (by simp)), r, q⟩
end

/-! ### calls -/
/-- f(..): the written arguments, then the defaults dvs; E: what is wanted of an exception -/
def tCall (sp : Sp) (dvs : List V) (E : XK) (t : TA) : TE := fun σ H Q => t σ H fun vs H1 => sp (vs ++ dvs) H1 Q E
/-- o.m(..) of an instance of the class at C -/
def tMeth (C : Addr) (m : Str) (sp : Sp) (dvs : List V) (E : XK) (ta : TE) (t : TA) : TE := fun σ H Q => ta σ H fun x H1 => ∃ a dx fs, x = .ref a ∧ H1 a = some (.ins C dx fs) ∧ fs.lookup m = none ∧
  t σ H1 fun vs H2 => sp (x :: (vs ++ dvs)) H2 Q E
/-- C(..): a new instance and its dict, then __init__ -/
def tMake (C : Addr) (sp : Sp) (dvs : List V) (E : XK) (t : TA) : TE := fun σ H Q => t σ H fun vs H1 => ∀ x dx, H1 x = none → H1 dx = none → dx ≠ x →
  sp (.ref x :: (vs ++ dvs)) (upd (upd H1 dx (.own x)) x (.ins C dx [])) (fun v H2 => v = .non ∧ Q (.ref x) H2) E

/-- how the parameters are bound: us the positional arguments, kw the keywords' values by name, ds the defaults that fill up -/
def Binds (K : PySem.W.Frag) (fd : FuncData) (ps : List Str) (ds : List Value) : Prop :=
  ∀ (s : Shared) (us : List Value), K.In s.heap → (us ++ ds).length = ps.length → BindsTo s fd ⟨us, []⟩ (ps.zip (us ++ ds))
/-- every parameter is given -/
theorem Binds.all {K : PySem.W.Frag} {fd : FuncData} {ps : List Str} (h : ∀ us : List Value, us.length = ps.length → bindArgs fd ⟨us, []⟩ = pure (ps.zip us)) : Binds K fd ps [] := fun s us _ hl => by
  rw [List.append_nil] at hl ⊢
  exact .of_eq (h us hl)

/-- an exception of a callee reaches what this body wants of exceptions -/
def Passes (CX : CXT) (X : Cx) (E : XK) : Prop := ∀ (pins : List (Addr × Obj)) (σ : St) (H : Hp) (s : Shared) (e : Value) (s' : Shared), Inv X pins σ H s → CX X.stack H s E e s' → X.xe e s'

section
variable {X : Cx} {CX : CXT} {k : Nat} {f C : Addr} {fd : FuncData} {ps : List Str} {sp : Sp} {dvs : List V} {ds : List Value} {E : XK} {x m : Str} {p pos apos : Pos} {e o : Expr} {es : List Expr} {ta : TE} {t : TA}

/-- the callee runs -/
theorem run_fn {pins : List (Addr × Obj)} {σ : St} {H : Hp} {s : Shared} {Q : VK} {us : List Value} {vs : List V} (F : FnOk X.prog X.w X.K X.mg X.base CX k f fd ps sp) (hr : Room k X.A) (hb : Binds X.K fd ps ds) (hd : Vals dvs ds) (hx : Passes CX X E)
    (I : Inv X pins σ H s) (r : Vals vs us) (h : sp (vs ++ dvs) H Q E) : wpAny (model X.prog X.w) X.A (call (.ref f) us) (EP X pins σ Q) X.xe s := by
  have r2 : Vals (vs ++ dvs) (us ++ ds) := r.append hd
  have hl : (us ++ ds).length = ps.length := by rw [← r2.length]; exact F.len _ _ _ _ h
  refine wpAny_call (codeAny_mono (F.run X.A X.stack s H ⟨us, []⟩ (us ++ ds) (vs ++ dvs) Q E hr I.env0 (hb s us I.kIn hl) r2 h) fun r s' hq => ?_)
  cases r with
  | error e => exact hx pins σ H s e s' I hq
  | ok fl =>
    cases fl with
    | ret u => exact I.after hq
    | next => exact False.elim hq
    | brk => exact False.elim hq
    | cont => exact False.elim hq

theorem pe_call (F : FnOk X.prog X.w X.K X.mg X.base CX k f fd ps sp) (hr : Room k X.A) (hg : Gl X x) (hm : X.mg x = some (.ref f)) (hk : PySem.W.keepIn X.K (.ref f) = true) (hb : Binds X.K fd ps ds) (hd : Vals dvs ds) (hx : Passes CX X E)
    (ha : PA X (e :: es) t) (hdb : (x == ("__debug__" : Str)) = false := by decide) (he : starEach (e :: es) X.env = (false, eval e X.env) :: starEach es X.env := by rfl) (hpl : (backTo pos (starEach es X.env)).any (·.1) = false := by rfl) :
    PE X (.Call (.Name x p) (e :: es) [] pos) (tCall sp dvs E t) := by
  intro pins s σ H Q I h
  refine wpAny_Call_Name_kw (ld_glob I hg hm ?_ hdb)
  refine PySem.W.callWith_K (h₀ := X.base) I.ok.mod.kin hk (thn (ha pos pins s σ H _ I h) fun us s1 ⟨vs, H1, I1, r, q⟩ => ⟨I1.kIn, ?_⟩) he hpl
  exact run_fn F hr hb hd hx I1 r q
/-- what a class must have to be made -/
structure Mk (K : PySem.W.Frag) (C f : Addr) : Prop where
  makes : PySem.W.makesIn K C = true
  init : PySem.W.findIn K (.ref C) "__init__" = some (some (.ref f))
  fn : PySem.W.isFn K (.ref f) = true
  kp : PySem.W.keepIn K (.ref C) = true

end

/-! ### keywords -/
/-- the values of the keywords, from the left -/
def PK (X : Cx) (kws : List Keyword) (t : TA) : Prop :=
  ∀ (pos : Pos) (pins : List (Addr × Obj)) (s : Shared) (σ : St) (H : Hp) (Q : List V → Hp → Prop), Inv X pins σ H s → t σ H Q → wpAny (model X.prog X.w) X.A (evalAll ((backToKw pos (keywordEach kws X.env)).map (·.2))) (AP X pins σ Q) X.xe s
section
variable {X : Cx} {CX : CXT} {k : Nat} {f C : Addr} {fd : FuncData} {ps ks : List Str} {sp : Sp} {E : XK} {x m : Str} {p pos apos kpos : Pos} {e o : Expr} {es : List Expr} {kws : List Keyword} {te ta : TE} {t tk : TA} {nm : Option Str}
theorem pk_nil : PK X [] tNil := fun _ _ _ _ H Q I h => wpAny_evalAll_nil ⟨[], H, I, .nil, h⟩
theorem pk_cons (ha : PE X e te) (hr : PK X kws t) : PK X (⟨nm, e, kpos⟩ :: kws) (tCons te t) := by
  intro pos pins s σ H Q I h
  show wpAny _ _ (evalAll ((do let v ← eval e X.env; standAt pos; pure v) :: (backToKw pos (keywordEach kws X.env)).map (·.2))) _ _ s
  refine wpAny_evalAll_cons (wpAny_bind (thn (ha pins s σ H _ I h) fun u s1 ⟨x, H1, I1, r1, q1⟩ => wpAny_bind (wpAny_standAt (wpAny_pure ?_))))
  exact thn (hr pos pins s1 σ H1 _ I1 q1) fun us s2 ⟨xs, H2, I2, r2, q2⟩ => ⟨x :: xs, H2, I2, .cons r1 r2, q2⟩

/-- how a call with keywords binds: g puts the positional values us and the keywords' values ws (names ks) in the parameters' order, defaults among them -/
structure KBinds (K : PySem.W.Frag) (fd : FuncData) (ps ks : List Str) (g : List Value → List Value → List Value) (gV : List V → List V → List V) : Prop where
  to : ∀ (s : Shared) (us ws : List Value), K.In s.heap → (g us ws).length = ps.length → BindsTo s fd ⟨us, ks.zip ws⟩ (ps.zip (g us ws))
  rel : ∀ {vs : List V} {us : List Value} {zs : List V} {ws : List Value}, Vals vs us → Vals zs ws → Vals (gV vs zs) (g us ws)
def tCallK (sp : Sp) (gV : List V → List V → List V) (E : XK) (t tk : TA) : TE := fun σ H Q => t σ H fun vs H1 => tk σ H1 fun zs H2 => sp (gV vs zs) H2 Q E
variable {g : List Value → List Value → List Value} {gV : List V → List V → List V}
end

/-! ### a def's body keeps its promise -/
/-- names: the parameters first -/
structure FnScope (N P : List Str) (sc : Scope) : Prop where
  kind : sc.kind = .function
  co : sc.isCoroutine = false
  gen : sc.isGenerator = false
  nd : N.Nodup
  pre : N.take P.length = P
  par : ∀ x ∈ P, sc.names.lookup x = some .local ∨ sc.names.lookup x = some .cell
  nofree : ∀ y ∈ sc.names, y.2 ≠ .free

theorem bindL_out {kindOf : Str → Option NameKind} {x : Str} : ∀ {binds : List (Str × Value)} {m : Str → Option Value}, (∀ v, (x, v) ∉ binds) → bindL kindOf binds m x = m x
  | [], _, _ => rfl
  | (n, v) :: r, m, h => by
    unfold bindL
    rw [bindL_out fun w hw => h w (List.mem_cons_of_mem _ hw)]
    split
    · have : x ≠ n := by rintro rfl; exact h v List.mem_cons_self
      simp [this]
    · rfl
theorem bindC_out {kindOf : Str → Option NameKind} {x : Str} : ∀ {binds : List (Str × Value)} {m : Str → Option Value}, (∀ v, (x, v) ∉ binds) → bindC kindOf binds m x = m x
  | [], _, _ => rfl
  | (n, v) :: r, m, h => by
    unfold bindC
    rw [bindC_out fun w hw => h w (List.mem_cons_of_mem _ hw)]
    split
    · rfl
    · have : x ≠ n := by rintro rfl; exact h v List.mem_cons_self
      simp [this]
theorem bindL_get {kindOf : Str → Option NameKind} {x : Str} {v : Value} : ∀ {P : List Str} {vs : List Value} {i : Nat} {m : Str → Option Value}, P.Nodup → P[i]? = some x → vs[i]? = some v → kindOf x = some .local →
    bindL kindOf (P.zip vs) m x = some v
  | [], _, _, _, _, h, _, _ => by simp at h
  | _ :: _, [], _, _, _, _, h, _ => by simp at h
  | p :: P, w :: vs, 0, m, nd, h1, h2, hk => by
    simp at h1 h2; subst h1; subst h2
    show bindL kindOf ((p, w) :: P.zip vs) m p = _
    unfold bindL
    rw [bindL_out fun v hv => (List.nodup_cons.mp nd).1 (List.of_mem_zip hv).1, if_pos hk]
    simp
  | p :: P, w :: vs, i + 1, m, nd, h1, h2, hk => by
    show bindL kindOf ((p, w) :: P.zip vs) m x = _
    unfold bindL
    exact bindL_get (i := i) (List.nodup_cons.mp nd).2 (by simpa using h1) (by simpa using h2) hk
theorem bindC_get {kindOf : Str → Option NameKind} {x : Str} {v : Value} : ∀ {P : List Str} {vs : List Value} {i : Nat} {m : Str → Option Value}, P.Nodup → P[i]? = some x → vs[i]? = some v → kindOf x ≠ some .local →
    bindC kindOf (P.zip vs) m x = some v
  | [], _, _, _, _, h, _, _ => by simp at h
  | _ :: _, [], _, _, _, _, h, _ => by simp at h
  | p :: P, w :: vs, 0, m, nd, h1, h2, hk => by
    simp at h1 h2; subst h1; subst h2
    show bindC kindOf ((p, w) :: P.zip vs) m p = _
    unfold bindC
    rw [bindC_out fun v hv => (List.nodup_cons.mp nd).1 (List.of_mem_zip hv).1, if_neg hk]
    simp
  | p :: P, w :: vs, i + 1, m, nd, h1, h2, hk => by
    show bindC kindOf ((p, w) :: P.zip vs) m x = _
    unfold bindC
    exact bindC_get (i := i) (List.nodup_cons.mp nd).2 (by simpa using h1) (by simpa using h2) hk

/-- the names' values at the entry -/
def start (N : List Str) (vs : List V) : St := vs.map some ++ List.replicate (N.length - vs.length) none

/-- the context of a def's body, at its entry; an exception leaves the frame, then lies as CX says -/
def cxOf (CX : CXT) (P : Program) (w : World) (K : PySem.W.Frag) (mg : Str → Option Value) (base : Heap) (N : List Str) (qual : Str) (scope : Scope) (f : Addr) (cd : Value) (A : Around) (outer : List Env) (s : Shared) (H : Hp) (E : XK) : Cx where
  prog := P
  w := w
  K := K
  mg := mg
  base := base
  A := A.deeper (envOfC qual scope s.heap.objs.size f cd)
  N := N
  s₀ := s
  H₀ := H
  env := envOfC qual scope s.heap.objs.size f cd
  outer := outer
  stack := envOfC qual scope s.heap.objs.size f cd :: outer
  ex := []
  calm := true
  fn := fun _ => true
  pn := []
  xe := fun e s' => wpAny (model P w) (A.deeper (envOfC qual scope s.heap.objs.size f cd)) (leaving (envOfC qual scope s.heap.objs.size f cd) e) (fun _ s'' => CX outer H s E e s'') (fun e' s'' => CX outer H s E e' s'') s'

theorem cell_has {sc : Scope} {n : Nat} {x : Str} (h : sc.names.lookup x = some .cell) : ∃ c, (cellsFrom n sc.names []).lookup x = some c := by
  have q := PySem.W.cellsFrom_some sc.names n [] (.inl h)
  exact Option.isSome_iff_exists.mp q

theorem inv_start {CX : CXT} {P : Program} {w : World} {K : PySem.W.Frag} {mg : Str → Option Value} {base : Heap} {N ps : List Str} {qual : Str} {scope : Scope} {f : Addr} {cd : Value} {A : Around} {outer : List Env} {s s1 : Shared} {H : Hp} {E : XK} {us : List Value} {vs : List V}
    (S : FnScope N ps scope) (hd : A.handled = none) (e0 : Env0 P w K mg base A outer s H) (hl : vs.length = ps.length) (r : Vals vs us)
    (x : InCallC s s.heap.objs.size (bindL (envOfC qual scope s.heap.objs.size f cd).kindOf (ps.zip us) fun _ => none) (cellsFrom (s.heap.objs.size + 1) scope.names []) (bindC (envOfC qual scope s.heap.objs.size f cd).kindOf (ps.zip us) fun _ => none) s1) :
    Inv (cxOf CX P w K mg base N qual scope f cd A outer s H E) [] (start N vs) H s1 := by
  have hpl : ps.length ≤ N.length := by have := congrArg List.length S.pre; rw [List.length_take] at this; omega
  obtain ⟨h1, tk, rfl, hk⟩ := x.done
  have noA : ∀ b : Addr, b ∉ (cxOf CX P w K mg base N qual scope f cd A outer s H E).ex := fun b z => absurd (show b ∈ ([] : List Addr) from z) (by simp)
  refine ⟨⟨e0.mod, S.kind, rfl, rfl, Nat.le_refl _, fun y z c h1 h2 => ?_, fun y hy => ?_, fun y c _ h => ?_, fun _ => hd, Around.frames_deeper e0.frames, .inr ⟨rfl, rfl⟩, fun b z => absurd z (noA b), e0.bs, e0.bsz, fun b _ _ => noA b, fun b z => absurd z (noA b), e0.funs, e0.frf⟩,
    rfl, e0.bare, Un.kept hk, ⟨_, x.toInCall.ns, fun i y v h1 h2 h3 => ?_⟩, fun y c h => ⟨_, x.cell y c h⟩, e0.hok.fresh (Nat.le_refl _), fun y c h => ?_, fun p hp => absurd (show p ∈ ([] : List (Addr × Obj)) from hp) (by simp), e0.hok.kept hk, ?_⟩
  · exact name_of_addr x.apart (PySem.mem_of_lookup h1) (PySem.mem_of_lookup h2)
  · have hy : scope.names.lookup y = some .cell ∨ scope.names.lookup y = some .free := hy
    rcases hy with hy | hy
    · exact cell_has hy
    · exact absurd rfl (S.nofree _ (PySem.mem_of_lookup hy))
  · exact Nat.le_of_lt (x.above y c (PySem.mem_of_lookup h))
  · have hi : i < vs.length := by
      unfold start at h2
      by_cases hi : i < vs.length
      · exact hi
      · rw [List.getElem?_append_right (by simpa using hi)] at h2
        rw [List.getElem?_replicate] at h2
        split at h2 <;> cases h2
    have ha : vs[i]? = some v := by
      unfold start at h2
      rw [List.getElem?_append_left (by simpa using hi), List.getElem?_map] at h2
      cases e : vs[i]? with
      | none => rw [e] at h2; cases h2
      | some a => rw [e] at h2; cases h2; rfl
    obtain ⟨u, hu, rv⟩ := r.get ha
    have hp : ps[i]? = some y := by
      rw [← S.pre, List.getElem?_take_of_lt (by omega)]; exact h1
    have ndP : ps.Nodup := by rw [← S.pre]; exact S.nd.sublist (List.take_sublist _ _)
    refine ⟨u, rv, ?_⟩
    rcases S.par y (List.mem_of_getElem? hp) with k | k
    · exact .inl ⟨k, bindL_get ndP hp hu k⟩
    · obtain ⟨c, e⟩ := cell_has (n := s.heap.objs.size + 1) k
      refine .inr ⟨.inl k, c, e, ?_⟩
      have q := x.cell y c e
      rw [bindC_get ndP hp hu (by show scope.names.lookup y ≠ _; rw [k]; decide)] at q
      exact q
  · exact e0.hok.fresh (Nat.le_of_lt (x.above y c (PySem.mem_of_lookup h)))
  · unfold start
    show _ = N.length
    rw [List.length_append, List.length_map, List.length_replicate]
    omega

/-- THE RULE: a def (or a method) of the text, by its body. The body's reading t is chosen for each entry; it is run at the parameters' values -/
theorem fn_of {CX : CXT} {P : Program} {w : World} {K : PySem.W.Frag} {mg : Str → Option Value} {base : Heap} {k : Nat} {f : Addr} {name qual : Str} {params : Arguments} {body : List Stmt} {scope : Scope} {dV kV doc pm cdv ct oc : Value} {an od : Option Addr}
    {osl : Array (Option Value)} {N ps : List Str} {sp : Sp} (lk : K.lookup f = some ⟨oc, od, .func (PySem.W.fnOf name qual params body scope dV kV doc pm an cdv ct), osl⟩) (hcd : PySem.W.codeIn K cdv qual = true) (S : FnScope N ps scope)
    (len : ∀ vs H Q E, sp vs H Q E → vs.length = ps.length)
    (hbody : ∀ (A : Around) (outer : List Env) (s : Shared) (H : Hp) (vs : List V) (Q : VK) (E : XK), Room k (A.deeper (envOfC qual scope s.heap.objs.size f cdv)) → sp vs H Q E →
      ∃ t, PSs (cxOf CX P w K mg base N qual scope f cdv A outer s H E) body t ∧ t { nx := fun _ H' => Q .non H', rt := Q } (start N vs) H) :
    FnOk P w K mg base CX (k + 1) f (PySem.W.fnOf name qual params body scope dV kV doc pm an cdv ct) ps sp := by
  refine ⟨len, fun A outer s H args us vs Q E hr e0 hb r hsp => ?_⟩
  have hl := len _ _ _ _ hsp
  have KX : K.In s.heap := e0.mod.kin.keeps fun b o e => (e0.bs b o e).1
  have lim : s.heap.NoLimit := e0.mod.nolimit.keeps fun b o e => (e0.bs b o e).1
  have hkind : ∀ y ∈ ps.zip us, scope.names.lookup y.1 = some .local ∨ (scope.names.lookup y.1 = some .cell ∧ ((cellsFrom (s.heap.objs.size + 1) scope.names []).lookup y.1).isSome = true) := fun ⟨n, v⟩ hy => by
    rcases S.par n (List.of_mem_zip hy).1 with q | q
    · exact .inl q
    · exact .inr ⟨q, PySem.W.cellsFrom_some _ _ _ (.inl q)⟩
  refine codeAny_call_function hr.depth (KX _ _ lk) rfl S.co S.gen rfl (PySem.W.codeRec_of KX hcd) (hb _ _ _ _ ?_)
  refine wpAny_newFunctionEnv_cells S.kind hkind fun env he s1 x => ?_
  subst he
  refine ⟨lim.keeps x.toInCall.keep, codeAny_func ?_⟩
  obtain ⟨t, ht, hq⟩ := hbody A outer s H vs Q E (hr.deeper _) hsp
  have I : Inv (cxOf CX P w K mg base N qual scope f cdv A outer s H E) [] (start N vs) H s1 := inv_start S hr.hd e0 hl r x
  refine wpAny_mono (ht [] s1 (start N vs) H _ I hq) (fun fl s' hs => ?_) fun e s' hs => hs
  have fin : ∀ {σ' : St} {H' : Hp} {v : V} {u : Value}, Inv (cxOf CX P w K mg base N qual scope f cdv A outer s H E) [] σ' H' s' → RelV v u → Q v H' → CE outer P w H s Q u s' :=
    fun {σ' H' v u} J rv q => ⟨v, H', J.os, J.bare, J.base, J.hok, rv, q⟩
  cases fl with
  | ret u =>
    obtain ⟨v, σ', H', J, rv, q⟩ := hs
    exact fin J rv q
  | next =>
    obtain ⟨σ', H', J, q⟩ := hs
    exact fin (v := V.non) (u := Value.none) J rfl q
  | brk =>
    obtain ⟨_, _, _, q⟩ := hs
    exact False.elim q
  | cont =>
    obtain ⟨_, _, _, q⟩ := hs
    exact False.elim q
end L2

namespace L2
open PySem PySem.Spec PyProof.Rows
section
variable {X : Cx} {x : Str} {p pos : Pos} {e : Expr} {es : List Expr} {t : TA} {id T : String} {r : List V → Hp → VK → Prop}

def tCB (r : List V → Hp → VK → Prop) (t : TA) : TE := fun σ H Q => t σ H fun vs H1 => r vs H1 Q
/-- f(e, ..), f a built-in function -/
theorem pe_callB (hc : CallR X (.builtin id) r) (hg : Gl X x) (hm : X.mg x = none) (hv : bootBuiltins x = some (.builtin id)) (ha : PA X (e :: es) t) (hn : x ≠ "__name__" := by decide) (hdb : (x == ("__debug__" : Str)) = false := by decide)
    (he : starEach (e :: es) X.env = (false, eval e X.env) :: starEach es X.env := by rfl) (hpl : (backTo pos (starEach es X.env)).any (·.1) = false := by rfl) : PE X (.Call (.Name x p) (e :: es) [] pos) (tCB r t) := by
  intro pins s σ H Q I h
  refine wpAny_Call_Name_kw (ld_blt I hg hm hv ?_ hn hdb)
  exact PyProof.Rows.callWith_builtin1 (thn (ha pos pins s σ H _ I h) fun us s1 ⟨vs, H1, I1, r1, q1⟩ => hc pins s1 σ H1 vs us Q I1 r1 q1) he hpl
/-- T(e, ..), T a built-in type -/
theorem pe_callTy (hc : CallR X (.type T) r) (hg : Gl X x) (hm : X.mg x = none) (hv : bootBuiltins x = some (.type T)) (ha : PA X (e :: es) t) (hn : x ≠ "__name__" := by decide) (hdb : (x == ("__debug__" : Str)) = false := by decide)
    (he : starEach (e :: es) X.env = (false, eval e X.env) :: starEach es X.env := by rfl) (hpl : (backTo pos (starEach es X.env)).any (·.1) = false := by rfl) : PE X (.Call (.Name x p) (e :: es) [] pos) (tCB r t) := by
  intro pins s σ H Q I h
  refine wpAny_Call_Name_kw (ld_blt I hg hm hv ?_ hn hdb)
  exact PyProof.Rows.callWith_type1 (thn (ha pos pins s σ H _ I h) fun us s1 ⟨vs, H1, I1, r1, q1⟩ => hc pins s1 σ H1 vs us Q I1 r1 q1) he hpl
end
end L2

namespace HT
open PySem PyProof.Rows

/-- t < u of tuples of ints -/
def lexLt : List Int → List Int → Bool
  | [], [] => false
  | [], _ :: _ => true
  | _ :: _, [] => false
  | x :: xs, y :: ys => if x = y then lexLt xs ys else decide (x < y)
section
open PySem.SeqAt
open PySem.AutoSeq1 (wpAny_loadPart')
open PySem.MeetsSeq PySem.MeetsSeq2 PySem.MeetsSeq3

end

section
variable {prog : Program} {w : World} {A : Around} {E : Value → Shared → Prop} {s : Shared}

/-! ### t[a:b], not the whole -/
/-- a slice's bound as a place among n (d where it is left out) -/
def sIx (n d : Nat) : Option Int → Nat
  | none => d
  | some v => if v < 0 then (v + (n : Int)).toNat else min v.toNat n
theorem sIx_nat (n d k : Nat) : sIx n d (some (k : Int)) = min k n := by
  show (if (k : Int) < 0 then ((k : Int) + (n : Int)).toNat else min (k : Int).toNat n) = min k n
  rw [if_neg (by omega), Int.toNat_natCast]
theorem sIx_le (n d : Nat) (hd : d ≤ n) (o : Option Int) : sIx n d o ≤ n := by
  cases o with
  | none => exact hd
  | some v =>
    show (if v < 0 then (v + (n : Int)).toNat else min v.toNat n) ≤ n
    by_cases hv : v < 0
    · rw [if_pos hv]; omega
    · rw [if_neg hv]; exact Nat.min_le_right _ _
theorem clip_eq (v : Int) (n d : Nat) : (if v < 0 then max (v + (n : Int)) 0 else min v (n : Int)) = ((sIx n d (some v) : Nat) : Int) := by
  show (if v < 0 then max (v + (n : Int)) 0 else min v (n : Int)) = (((if v < 0 then (v + (n : Int)).toNat else min v.toNat n) : Nat) : Int)
  by_cases hv : v < 0
  · simp only [if_pos hv]; omega
  · simp only [if_neg hv]; omega
theorem adjust_gen (lo hi : Option Int) (n : Nat) : Builtin.Slice.sliceAdjust lo hi 1 (n : Int) = (((sIx n 0 lo : Nat) : Int), ((sIx n n hi : Nat) : Int)) := by
  have h1 : ¬ ((1 : Int) < 0) := by omega
  unfold Builtin.Slice.sliceAdjust
  simp only [h1, if_false]
  refine Prod.ext ?_ ?_
  · cases lo with
    | none => rfl
    | some v => exact clip_eq v n 0
  · cases hi with
    | none => rfl
    | some v => exact clip_eq v n n
theorem places_gen (i j : Nat) : Builtin.Slice.slicePlaces (i : Int) (j : Int) 1 = j - i := by
  unfold Builtin.Slice.slicePlaces
  have h1 : (1 : Int) > 0 := by omega
  simp only [h1, if_true, Int.ediv_one]
  split <;> omega
theorem slicePart_ {v : Value} {o : Option Int} {Q : Option Int → Shared → Prop} (p : IsPart v o) (h : Q o s) : wpAny (model prog w) A (Builtin.Slice.slicePartIndex v) Q E s := by
  cases p with
  | none => exact slicePart_none h
  | int i t => exact slicePart_int h
theorem sliceApplied_gen {sl : Addr} {vl vu : Value} {lo hi : Option Int} {n : Nat} {Q : Int × Int × Nat → Shared → Prop} (hs : s.heap.IsSliceOf sl vl vu .none) (pl : IsPart vl lo) (pu : IsPart vu hi)
    (h : Q (((sIx n 0 lo : Nat) : Int), 1, sIx n n hi - sIx n 0 lo) s) : wpAny (model prog w) A (Builtin.Slice.sliceApplied (.ref sl) (pure (n : Int))) Q E s := by
  obtain ⟨os, hos, hcs, hds⟩ := id hs
  unfold Builtin.Slice.sliceApplied Builtin.Slice.sliceFields
  refine wpAny_bind (wpAny_bind (wpAny_field hos hds (x := vl) rfl (wpAny_bind (wpAny_field hos hds (x := vu) rfl (wpAny_bind (wpAny_field hos hds (x := .none) rfl (wpAny_pure ?_)))))))
  refine wpAny_bind (slicePart_none ?_)
  show wpAny _ _ (if ((1 : Int) == 0) = true then _ else _) _ _ s
  rw [if_neg (by decide)]
  refine wpAny_bind (slicePart_ pl (wpAny_bind (slicePart_ pu (wpAny_bind (wpAny_pure ?_)))))
  show wpAny _ _ (match Builtin.Slice.sliceAdjust lo hi 1 (n : Int) with | (lo, hi) => pure (lo, (1 : Int), Builtin.Slice.slicePlaces lo hi 1)) _ _ s
  rw [adjust_gen lo hi n]
  show wpAny _ _ (pure (((sIx n 0 lo : Nat) : Int), (1 : Int), Builtin.Slice.slicePlaces ((sIx n 0 lo : Nat) : Int) ((sIx n n hi : Nat) : Int) 1)) _ _ s
  rw [places_gen]
  exact wpAny_pure h
theorem pick_gen (xs : Array Value) (i k : Nat) : ((List.range k).filterMap fun (m : Nat) => xs[((i : Int) + (m : Int) * 1).toNat]?).toArray = ((xs.toList.drop i).take k).toArray := by
  have e : (fun (m : Nat) => xs[((i : Int) + (m : Int) * 1).toNat]?) = fun m => xs[i + m]? := by
    funext m
    have : ((i : Int) + (m : Int) * 1).toNat = i + m := by omega
    rw [this]
  rw [e]
  have := pick_run xs i k
  rw [List.filterMap_map] at this
  have e2 : ((fun x => xs[x]?) ∘ fun x => i + x) = fun m => xs[i + m]? := rfl
  rw [e2] at this
  rw [this]

theorem getItem_tuple_cut {t sl : Addr} {items : Array Value} {vl vu : Value} {lo hi : Option Int} {Q : Value → Shared → Prop} (ht : IsTup s.heap t items) (hs : s.heap.IsSliceOf sl vl vu .none) (pl : IsPart vl lo) (pu : IsPart vu hi)
    (hw : ¬ (sIx items.size 0 lo = 0 ∧ sIx items.size items.size hi = items.size))
    (h : Q (.ref s.heap.objs.size) { s with heap := s.heap.push { cls := .type "tuple", data := .seq ((items.toList.drop (sIx items.size 0 lo)).take (sIx items.size items.size hi - sIx items.size 0 lo)).toArray } })
    (hsz : items.size ≤ sizeLine) : wpAny (model prog w) A (getItem (.ref t) (.ref sl)) Q E s := by
  have htake : sizeOk (.seq ((items.toList.drop (sIx items.size 0 lo)).take (sIx items.size items.size hi - sIx items.size 0 lo)).toArray) := by
    show ((items.toList.drop (sIx items.size 0 lo)).take (sIx items.size items.size hi - sIx items.size 0 lo)).toArray.size ≤ sizeLine
    rw [List.size_toArray, List.length_take, List.length_drop, Array.length_toList]
    omega
  have hj : sIx items.size items.size hi ≤ items.size := sIx_le _ _ (Nat.le_refl _) hi
  obtain ⟨os, hos, hcs, hds⟩ := id hs
  have hTs : s.TypeIs (.ref sl) "slice" := ⟨os, hos, hcs⟩
  unfold getItem
  try with_reducible refine wpAny_holding ?_
  first | refine wpAny_bind (wpAny_pure ?_) | skip
  refine wpAny_bind (wpAny_sequenceKey ht.typeIs (by decide) ?_)
  refine wpAny_bind (wpAny_callSpecial?_slot (name := Str.ofString "__getitem__") ht.typeIs PyProof.Rows.slot_tuple_getitem
    (wpAny_call_entry PyProof.Rows.slot_tuple_getitem ht.typeIs entry_tuple_getitem ?_ (args_tuple_getitem _ _)))
  show wpAny _ _ (Builtin.Tuple.tupleItemsOf (.ref t) >>= _) _ _ s
  refine wpAny_bind (tupleItemsOf_ ht ?_)
  refine wpAny_bind (wpAny_typeOf hTs ?_)
  rw [if_pos (by decide)]
  refine wpAny_bind (sliceApplied_gen hs pl pu ?_)
  have hno : ¬ ((((sIx items.size 0 lo : Nat) : Int) == 0 && (1 : Int) == 1 && (sIx items.size items.size hi - sIx items.size 0 lo) == items.size) = true) := by
    intro q
    rw [Bool.and_eq_true, Bool.and_eq_true] at q
    have q1 : ((sIx items.size 0 lo : Nat) : Int) = 0 := eq_of_beq q.1.1
    have q2 : sIx items.size items.size hi - sIx items.size 0 lo = items.size := eq_of_beq q.2
    exact hw ⟨by omega, by omega⟩
  show wpAny _ _ (if (((sIx items.size 0 lo : Nat) : Int) == 0 && (1 : Int) == 1 && (sIx items.size items.size hi - sIx items.size 0 lo) == items.size) = true then _ else _) _ _ s
  rw [if_neg hno, pick_gen]
  first
    | exact wpAny_bind (m := Builtin.Tuple.tupleExact _) (wpAny_newObj_type (wpAny_pure ⟨_, rfl, wpAny_pure h⟩) htake)
    | exact wpAny_bind (m := Builtin.Tuple.tupleExact _) (wpAny_newObj_type (wpAny_bind (wpAny_pure (wpAny_pure ⟨_, rfl, wpAny_pure h⟩))) htake)
    | exact wpAny_bind (wpAny_bind (m := Builtin.Tuple.tupleExact _) (wpAny_newObj_type (wpAny_pure (wpAny_pure ⟨_, rfl, wpAny_pure h⟩)) htake))
    | exact wpAny_bind (wpAny_bind (m := Builtin.Tuple.tupleExact _) (wpAny_newObj_type (wpAny_pure ⟨_, rfl, wpAny_pure h⟩) htake))
end
end HT

namespace L2
open PySem PySem.Spec PyProof.Rows

/-! ### the parts of a slice -/
abbrev TO := St → Hp → (Option Int → Hp → Prop) → Prop
/-- a slice's part (left out, or an int) -/
def PO (X : Cx) (e : Option Expr) (t : TO) : Prop :=
  ∀ (pins : List (Addr × Obj)) (s : Shared) (σ : St) (H : Hp) (Q : Option Int → Hp → Prop), Inv X pins σ H s → t σ H Q →
    wpAny (model X.prog X.w) X.A (evalPart e X.env) (fun u s' => ∃ o H', Inv X pins σ H' s' ∧ IsPart u o ∧ Q o H') X.xe s
def tNoPart : TO := fun _ H Q => Q none H
def tPart (t : TE) : TO := fun σ H Q => t σ H fun x H1 => ∃ i, x = .int i ∧ Q (some i) H1

section
variable {X : Cx} {e : Expr} {te : TE} {lo hi : Option Expr} {tl th : TO} {pos p2 : Pos}

theorem po_none : PO X none tNoPart := by
  intro pins s σ H Q I h
  rw [evalPart_none]
  exact wpAny_pure ⟨none, H, I, .none, h⟩
theorem po_some (h : PE X e te) : PO X (some e) (tPart te) := by
  intro pins s σ H Q I hw
  rw [evalPart_some]
  refine thn (h pins s σ H _ I hw) fun u s1 ⟨x, H1, I1, r1, q1⟩ => ?_
  obtain ⟨i, rfl, q⟩ := q1
  obtain ⟨t, rfl⟩ := r1
  exact ⟨some i, H1, I1, .int i t, q⟩

/-- what a slice of a value is, by values: the slice object stands at sl -/
def SlR (X : Cx) (r : V → Option Int → Option Int → Hp → VK → Prop) : Prop :=
  ∀ (pins : List (Addr × Obj)) (s : Shared) (σ : St) (H : Hp) (x : V) (v vl vu : Value) (lo hi : Option Int) (sl : Addr) (Q : VK), Inv X pins σ H s → RelV x v → s.heap.IsSliceOf sl vl vu .none → IsPart vl lo → IsPart vu hi → r x lo hi H Q →
    ∃ T id, typeLookup (.type T) "__getitem__" = pure (some (.builtin id)) ∧ s.TypeIs v T ∧ wpAny (model X.prog X.w) X.A (getItem v (.ref sl)) (EP X pins σ Q) X.xe s
theorem SlR.or {r r' : V → Option Int → Option Int → Hp → VK → Prop} (h : SlR X r) (h' : SlR X r') : SlR X (fun x lo hi H Q => r x lo hi H Q ∨ r' x lo hi H Q) := by
  intro pins s σ H x v vl vu lo hi sl Q I rx hs pl pu q
  rcases q with q | q
  · exact h pins s σ H x v vl vu lo hi sl Q I rx hs pl pu q
  · exact h' pins s σ H x v vl vu lo hi sl Q I rx hs pl pu q
def tSl (r : V → Option Int → Option Int → Hp → VK → Prop) (te : TE) (tl th : TO) : TE := fun σ H Q => te σ H fun x H1 => tl σ H1 fun l H2 => th σ H2 fun u H3 => r x l u H3 Q
/-- a[lo:hi], any a -/
theorem pe_slice {r : V → Option Int → Option Int → Hp → VK → Prop} (hr : SlR X r) (he : PE X e te) (hl : PO X lo tl) (hu : PO X hi th) : PE X (.Subscript e (.Slice lo hi none p2) pos) (tSl r te tl th) := by
  intro pins s σ H Q I h
  refine Subscript_ (thn (he pins s σ H _ I h) fun v s1 ⟨x, H1, I1, r1, q1⟩ => ?_)
  refine wpAny_Slice (thn (hl pins s1 σ H1 _ I1 q1) fun vl s2 ⟨l, H2, I2, pl, q2⟩ => thn (hu pins s2 σ H2 _ I2 q2) fun vu s3 ⟨u, H3, I3, pu, q3⟩ => ?_)
  rw [evalPart_none]
  refine wpAny_pure ?_
  have I4 : Inv X pins σ H3 { s3 with heap := s3.heap.push { cls := .type "slice", data := .fields #[vl, vu, .none] } } := I3.kept (t' := s3.toks) fun b ob q => Heap.get?_push_of_some _ q
  obtain ⟨T, id, hT, ht, hg⟩ := hr pins { s3 with heap := s3.heap.push { cls := .type "slice", data := .fields #[vl, vu, .none] } } σ H3 x v vl vu l u s3.heap.objs.size Q I4 r1 (Heap.IsSliceOf.new ..) pl pu q3
  show wpAny (model X.prog X.w) X.A (subscriptTail e (.Slice lo hi none p2) v (.ref s3.heap.objs.size)) (EP X pins σ Q) X.xe { s3 with heap := s3.heap.push { cls := .type "slice", data := .fields #[vl, vu, .none] } }
  exact tail_any (ops := [.ref s3.heap.objs.size, v]) ht hT hg (by with_unfolding_all rfl)

/-- the items of xs[lo:hi] -/
def cutV (xs : List V) (lo hi : Option Int) : List V := (xs.drop (HT.sIx xs.length 0 lo)).take (HT.sIx xs.length xs.length hi - HT.sIx xs.length 0 lo)
theorem cutV_length (xs : List V) (lo hi : Option Int) : (cutV xs lo hi).length ≤ xs.length := by
  unfold cutV
  rw [List.length_take, List.length_drop]
  omega
/-- t[lo:hi], not the whole of it (the whole would be t itself) -/
def rSlT (K : PySem.W.Frag) : V → Option Int → Option Int → Hp → VK → Prop := fun x lo hi H Q => ∃ a xs, x = .ref a ∧ SqT K H a xs ∧
  ¬ (HT.sIx xs.length 0 lo = 0 ∧ HT.sIx xs.length xs.length hi = xs.length) ∧ ∀ p, H p = none → Q (.ref p) (upd H p (.tup (cutV xs lo hi)))
theorem sl_tup : SlR X (rSlT X.K) := by
  intro pins s σ H x v vl vu lo hi sl Q I rx hs pl pu h
  obtain ⟨a, xs, rfl, hx, hw, q⟩ := h
  cases rx
  obtain ⟨its, r, ht, hz⟩ := I.tuple hx
  have hlen : its.toArray.size = xs.length := by rw [List.size_toArray]; exact r.length.symm
  refine ⟨"tuple", _, PyProof.Rows.slot_tuple_getitem.lookup, ht.typeIs, ?_⟩
  refine HT.getItem_tuple_cut ht hs pl pu (by rw [hlen]; exact hw) ?_ (by rw [hlen]; exact hz)
  rw [hlen]
  refine ⟨.ref s.heap.objs.size, _, I.laid (t' := s.toks) (o := .tup (cutV xs lo hi)) (fun b ob q => Heap.get?_push_of_some _ q) (Nat.le_refl _) ?_, rfl, q _ (I.hok.fresh (Nat.le_refl _))⟩
  exact ⟨Nat.le_trans (cutV_length xs lo hi) hz, _, (r.drop (HT.sIx xs.length 0 lo)).take (HT.sIx xs.length xs.length hi - HT.sIx xs.length 0 lo), IsTupP.new _ _⟩

/-! ### t < u, t + u -/
def rLtT (K : PySem.W.Frag) : R2 := fun x y H Q => ∃ a b ns ms, x = .ref a ∧ y = .ref b ∧ SqT K H a (ns.map V.int) ∧ SqT K H b (ms.map V.int) ∧ Q (.bl (HT.lexLt ns ms)) H
/-- t + u, t not empty: u empty gives t itself -/
def rCatT (K : PySem.W.Frag) : R2 := fun x y H Q => ∃ a b xs ys, x = .ref a ∧ y = .ref b ∧ SqT K H a xs ∧ SqT K H b ys ∧ xs ≠ [] ∧ xs.length + ys.length ≤ sizeLine ∧
  (ys = [] → Q (.ref a) H) ∧ (ys ≠ [] → ∀ p, H p = none → Q (.ref p) (upd H p (.tup (xs ++ ys))))
end
end L2

namespace L2
open PySem PySem.Spec PyProof.Rows

/-! ### places -/
/-- the place that an index of any sign means -/
def ixN (n : Nat) (i : Int) : Option Nat := if 0 ≤ i then (if i < n then some i.toNat else none) else if -(n : Int) ≤ i then some (i + n).toNat else none
def atI {α : Type} (xs : List α) (i : Int) : Option α := (ixN xs.length i).bind fun j => xs[j]?
theorem ixN_seq {n : Nat} {i : Int} {j : Nat} (h : ixN n i = some j) : seqIndex? i n = some j ∧ j < n ∧ -(n : Int) ≤ i ∧ i < n := by
  unfold ixN at h
  by_cases h0 : 0 ≤ i
  · rw [if_pos h0] at h
    by_cases h1 : i < n
    · rw [if_pos h1] at h
      have e : i.toNat = j := Option.some.inj h
      exact ⟨by rw [seqIndex_of h0 h1, e], by omega, by omega, h1⟩
    · rw [if_neg h1] at h; cases h
  · rw [if_neg h0] at h
    by_cases h1 : -(n : Int) ≤ i
    · rw [if_pos h1] at h
      have e : (i + n).toNat = j := Option.some.inj h
      exact ⟨by rw [seqIndex_neg (by omega) h1, e], by omega, h1, by omega⟩
    · rw [if_neg h1] at h; cases h
theorem atI_get {α : Type} {xs : List α} {i : Int} {v : α} (h : atI xs i = some v) : ∃ j, seqIndex? i xs.length = some j ∧ xs[j]? = some v ∧ j < xs.length ∧ -(xs.length : Int) ≤ i ∧ i < xs.length := by
  unfold atI at h
  cases e : ixN xs.length i with
  | none => rw [e] at h; cases h
  | some j =>
    rw [e] at h
    obtain ⟨h1, h2, h3, h4⟩ := ixN_seq e
    exact ⟨j, h1, h, h2, h3, h4⟩
theorem atI_nat {α : Type} {xs : List α} {j : Nat} {v : α} (h : xs[j]? = some v) : atI xs (j : Int) = some v := by
  have hj : j < xs.length := (List.getElem?_eq_some_iff.mp h).1
  have e : ixN xs.length (j : Int) = some j := by
    unfold ixN
    rw [if_pos (by omega), if_pos (by omega)]; simp
  unfold atI; rw [e]; exact h
/-! ### what may be subscripted -/
/-- what stands as an index of a plain subscript -/
def PlainIx (b : Expr) : Prop := ∀ o i, subscripted b false o i = operate [o, i] (getItem o i)
/-- a subscript by values -/
def IxR (X : Cx) (r : R2) : Prop :=
  ∀ (value slice : Expr) (pins : List (Addr × Obj)) (s : Shared) (σ : St) (H : Hp) (x y : V) (v u : Value) (Q : VK), Inv X pins σ H s → RelV x v → RelV y u → r x y H Q →
    subscripted slice false v u = operate [v, u] (getItem v u) → wpAny (model X.prog X.w) X.A (subscriptTail value slice v u) (EP X pins σ Q) X.xe s
/-- a call of a builtin's method by values: the receiver, the arguments -/
def MtR (X : Cx) (id : String) (r : V → List V → Hp → VK → Prop) : Prop :=
  ∀ (pins : List (Addr × Obj)) (s : Shared) (σ : St) (H : Hp) (x : V) (xs : List V) (v : Value) (us : List Value) (Q : VK), Inv X pins σ H s → RelV x v → Vals xs us → r x xs H Q →
    wpAny (model X.prog X.w) X.A (call (.builtin id) (v :: us)) (EP X pins σ Q) X.xe s
section
variable {X : Cx} {a b : Expr} {ta tb : TE} {pos : Pos}
theorem IxR.or {r r' : R2} (h : IxR X r) (h' : IxR X r') : IxR X (fun x y H Q => r x y H Q ∨ r' x y H Q) := by
  intro value slice pins s σ H x y v u Q I rx ry q hs
  rcases q with q | q
  · exact h value slice pins s σ H x y v u Q I rx ry q hs
  · exact h' value slice pins s σ H x y v u Q I rx ry q hs
theorem MtR.or {id : String} {r r' : V → List V → Hp → VK → Prop} (h : MtR X id r) (h' : MtR X id r') : MtR X id (fun x xs H Q => r x xs H Q ∨ r' x xs H Q) := by
  intro pins s σ H x xs v us Q I rx rs q
  rcases q with q | q
  · exact h pins s σ H x xs v us Q I rx rs q
  · exact h' pins s σ H x xs v us Q I rx rs q
/-- a[b] -/
theorem pe_ix {r : R2} (hr : IxR X r) (ha : PE X a ta) (hb : PE X b tb) (hs : PlainIx b) : PE X (.Subscript a b pos) (tOp r ta tb) := by
  intro pins s σ H Q I h
  exact Subscript_ (binT ha hb I h fun v u s2 x y H2 I2 rx ry q => hr a b pins s2 σ H2 x y v u Q I2 rx ry q (hs _ _))

def rIxL (K : PySem.W.Frag) : R2 := fun x y H Q => ∃ p xs i v, x = .ref p ∧ y = .int i ∧ SqL K H p xs ∧ atI xs i = some v ∧ Q v H
def rIxT (K : PySem.W.Frag) : R2 := fun x y H Q => ∃ p xs i v, x = .ref p ∧ y = .int i ∧ SqT K H p xs ∧ atI xs i = some v ∧ Q v H
def rIxS : R2 := fun x y H Q => ∃ z i c, x = .str z ∧ y = .int i ∧ z.length ≤ sizeLine ∧ atI z.cps.toList i = some c ∧ Q (.str ⟨#[c]⟩) H
theorem ix_list : IxR X (rIxL X.K) := by
  intro value slice pins s σ H x y v u Q I rx ry h hs
  obtain ⟨p, xs, i, z, rfl, rfl, hq, he, q⟩ := h
  cases rx
  obtain ⟨t, rfl⟩ := ry
  obtain ⟨its, r, pl, hz⟩ := I.list hq
  obtain ⟨j, h1, h2, h3, h4, h5⟩ := atI_get he
  obtain ⟨w, ew, rw'⟩ := r.get h2
  have hl := r.length
  have hn := line63
  have fin : EP X pins σ Q w s := ⟨z, H, I, rw', q⟩
  by_cases h0 : 0 ≤ i
  · have hj : i.toNat = j := by
      rw [seqIndex_of h0 h5] at h1
      exact Option.some.inj h1
    exact item_listR pl.isList h0 (by omega) (by rw [hj]; simpa using ew) fin hs
  · have hj : (i + (its.toArray.size : Int)).toNat = j := by
      rw [seqIndex_neg (by omega) h4] at h1
      rw [List.size_toArray, ← hl]
      exact Option.some.inj h1
    exact subscriptTail_builtinR (x := w) pl.isList.typeIs slot_list_getitem.lookup
      (wpAny_getItem_list_neg (Q := fun r s' => r = w ∧ EP X pins σ Q r s') pl.isList (by omega) (by rw [List.size_toArray] <;> omega) (by omega) (by rw [hj]; simpa using ew) ⟨rfl, fin⟩) hs
theorem ix_tup : IxR X (rIxT X.K) := by
  intro value slice pins s σ H x y v u Q I rx ry h hs
  obtain ⟨p, xs, i, z, rfl, rfl, hq, he, q⟩ := h
  cases rx
  obtain ⟨t, rfl⟩ := ry
  obtain ⟨its, r, pl, hz⟩ := I.tuple hq
  obtain ⟨j, h1, h2, h3, h4, h5⟩ := atI_get he
  obtain ⟨w, ew, rw'⟩ := r.get h2
  have hl := r.length
  have hn := line63
  have fin : EP X pins σ Q w s := ⟨z, H, I, rw', q⟩
  exact subscriptTail_builtinR (x := w) pl.typeIs slot_tuple_getitem.lookup
    (getItem_tuple (j := j) (Q := fun r s' => r = w ∧ EP X pins σ Q r s') pl (by omega) (by omega) (by rw [List.size_toArray, ← hl]; exact h1) (by simpa using ew) ⟨rfl, fin⟩) hs
theorem ix_str : IxR X rIxS := by
  intro value slice pins s σ H x y v u Q I rx ry h hs
  obtain ⟨z, i, c, rfl, rfl, hz, he, q⟩ := h
  obtain ⟨t, rfl⟩ := rx
  obtain ⟨t', rfl⟩ := ry
  obtain ⟨j, h1, h2, h3, h4, h5⟩ := atI_get he
  have hl : z.cps.toList.length = z.length := by simp [Str.length]
  rw [hl] at h1 h4 h5
  have hn := line63
  exact tail_any (typeIs_str s z t) slot_str_getitem.lookup (getItem_str (c := c) (by
    have e1 : decide (i < -(2 ^ 63 : Int)) = false := decide_eq_false (by omega)
    have e2 : decide (i ≥ 2 ^ 63) = false := decide_eq_false (by omega)
    rw [e1, e2, Bool.or_false]) (by rw [h1]; simpa using h2) ⟨.str ⟨#[c]⟩, H, I.tok _, ⟨_, rfl⟩, q⟩) hs
/-- list, tuple or str -/
def rIx (K : PySem.W.Frag) : R2 := fun x y H Q => rIxL K x y H Q ∨ rIxT K x y H Q ∨ rIxS x y H Q
/-! ### xs[i] = v, any sign -/
/-- the list's object behind a store -/
theorem mapSeq_set (its : List Value) (n j : Nat) (u : Value) : Obj.mapSeq (·.setIfInBounds j u) { cls := .type "list", data := .seq its.toArray n } = { cls := .type "list", data := .seq (its.set j u).toArray n } := by
  simp [Obj.mapSeq]
theorem Inv.lst {pins : List (Addr × Obj)} {σ : St} {H : Hp} {s : Shared} {p : Addr} {xs : List V} (I : Inv X pins σ H s) (h : H p = some (.lst xs)) :
    ∃ (its : List Value) (n : Nat), Vals xs its ∧ s.heap.get? p = some { cls := .type "list", data := .seq its.toArray n } ∧ xs.length ≤ sizeLine := by
  obtain ⟨z, its, n, r, e⟩ := I.hok p _ h
  exact ⟨its, n, r, e, z⟩
/-- the list at p is written by an update of its object -/
theorem Inv.lstUpd {pins : List (Addr × Obj)} {σ : St} {H : Hp} {s : Shared} {p : Addr} {xs ys : List V} {its its' : List Value} {n n' : Nat} {f : Obj → Obj} (I : Inv X pins σ H s) (h : H p = some (.lst xs))
    (ho : s.heap.get? p = some { cls := .type "list", data := .seq its.toArray n }) (hf : f { cls := .type "list", data := .seq its.toArray n } = { cls := .type "list", data := .seq its'.toArray n' }) (r : Vals ys its') (hz : ys.length ≤ sizeLine) (t : Nat) :
    Inv X pins σ (upd H p (.lst ys)) { s with heap := s.heap.update p f, toks := t } := by
  have e : (s.heap.update p f).get? p = some { cls := .type "list", data := .seq its'.toArray n' } := by
    rw [Heap.get?_update_self f ho (by rw [hf] <;> rfl), hf]
  refine I.write (x := p) (e := p) (by rw [h]; trivial) (.inl rfl) (fun b u hb q => (Heap.get?_update_other _ _ (Ne.symm hb)).trans q) ⟨_, e⟩ ?_
  exact ⟨hz, its', n', r, e⟩
def rSetL : V → V → V → Hp → (Hp → Prop) → Prop := fun o i v H Q => ∃ p xs k j, o = .ref p ∧ i = .int k ∧ H p = some (.lst xs) ∧ ixN xs.length k = some j ∧ Q (upd H p (.lst (xs.set j v)))
theorem set_list : PSet X rSetL := by
  intro pins s σ H o i v ov iv u Q I ro ri rv h
  obtain ⟨p, xs, k, j, rfl, rfl, hp, hj, q⟩ := h
  cases ro
  obtain ⟨t, rfl⟩ := ri
  obtain ⟨its, n, r, ho, hz⟩ := I.lst hp
  obtain ⟨h1, h2, h3, h4⟩ := ixN_seq hj
  have hl := r.length
  have hn := line63
  have I' : Inv X pins σ (upd H p (.lst (xs.set j v))) { s with heap := s.heap.update p (Obj.mapSeq (·.setIfInBounds j u)) } :=
    I.lstUpd hp ho (mapSeq_set its n j u) (r.set rv j) (by rw [List.length_set]; exact hz) s.toks
  by_cases h0 : 0 ≤ k
  · have hk : k.toNat = j := by
      rw [seqIndex_of h0 h4] at h1
      exact Option.some.inj h1
    exact PySem.W.ki_setAt ho h0 (by omega) (by rw [List.size_toArray, ← hl]; exact h4) (by rw [hk]; exact ⟨_, I', q⟩)
  · have hk : (k + (its.toArray.size : Int)).toNat = j := by
      rw [seqIndex_neg (by omega) h3] at h1
      rw [List.size_toArray, ← hl]
      exact Option.some.inj h1
    exact PySem.W.ki_setBack ho (by omega) (by rw [List.size_toArray, ← hl]; exact h3) (by omega) (by rw [hk]; exact ⟨_, I', q⟩)

/-! ### slices -/
theorem slice_bounds (lo hi : Option Int) (n : Nat) : (sliceBounds lo hi none n).1 = ((HT.sIx n 0 lo : Nat) : Int) ∧ (sliceBounds lo hi none n).2.1 = ((HT.sIx n n hi : Nat) : Int) ∧ (sliceBounds lo hi none n).2.2 = 1 := by
  refine ⟨?_, ?_, rfl⟩
  · cases lo with
    | none => simp [sliceBounds, HT.sIx]
    | some i =>
      simp only [sliceBounds, HT.sIx, Option.getD_none, show (1 : Int) > 0 by decide, if_true]
      by_cases h : i < 0
      · simp only [h, if_true] <;> omega
      · simp only [h, if_false] <;> omega
  · cases hi with
    | none => simp [sliceBounds, HT.sIx]
    | some i =>
      simp only [sliceBounds, HT.sIx, Option.getD_none, show (1 : Int) > 0 by decide, if_true]
      by_cases h : i < 0
      · simp only [h, if_true] <;> omega
      · simp only [h, if_false] <;> omega
theorem slicePick_cut (its : List Value) (lo hi : Option Int) : slicePick its.toArray lo hi none = ((its.drop (HT.sIx its.length 0 lo)).take (HT.sIx its.length its.length hi - HT.sIx its.length 0 lo)).toArray := by
  obtain ⟨h1, h2, h3⟩ := slice_bounds lo hi its.toArray.size
  unfold slicePick
  rw [h1, h2, h3]
  simp only [sliceRange_one, pick_run, List.size_toArray] <;> rfl
/-- xs[lo:hi] of a list: a new list -/
def rSlL (K : PySem.W.Frag) : V → Option Int → Option Int → Hp → VK → Prop := fun x lo hi H Q => ∃ a xs, x = .ref a ∧ SqL K H a xs ∧ ∀ p, H p = none → Q (.ref p) (upd H p (.lst (cutV xs lo hi)))
theorem sl_list : SlR X (rSlL X.K) := by
  intro pins s σ H x v vl vu lo hi sl Q I rx hs pl pu h
  obtain ⟨a, xs, rfl, hx, q⟩ := h
  cases rx
  obtain ⟨its, r, ht, hz⟩ := I.list hx
  have hlen := r.length
  refine ⟨"list", _, slot_list_getitem.lookup, ht.isList.typeIs, ?_⟩
  refine wpAny_getItem_list_slice ht.isList hs pl pu .none (by simp) ?_ (by rw [List.size_toArray] <;> omega)
  rw [slicePick_cut, ← hlen]
  refine ⟨.ref s.heap.objs.size, _, I.laid (t' := s.toks) (o := .lst (cutV xs lo hi)) (fun b ob q => Heap.get?_push_of_some _ q) (Nat.le_refl _) ?_, rfl, q _ (I.hok.fresh (Nat.le_refl _))⟩
  exact ⟨Nat.le_trans (cutV_length xs lo hi) hz, _, 0, (r.drop (HT.sIx xs.length 0 lo)).take (HT.sIx xs.length xs.length hi - HT.sIx xs.length 0 lo), Heap.get?_push_size _ rfl⟩

/-! ### in, not in: flat items -/
def flatV : V → Bool
  | .non => true
  | .bl _ => true
  | .int _ => true
  | .str _ => true
  | _ => false
/-- == of flat values -/
def eqV : V → V → Bool
  | .non, .non => true
  | .bl a, .bl b => a == b
  | .bl a, .int b => (if a then 1 else 0) == b
  | .int a, .bl b => a == (if b then 1 else 0)
  | .int a, .int b => a == b
  | .str a, .str b => a == b
  | _, _ => false
/-- the items' answers, read off the values (a value's own answer does not lean on its token) -/
def eqU (x : V) (u : Value) : Bool := match u with
  | .none => eqV .non x
  | .bool b => eqV (.bl b) x
  | .int i _ => eqV (.int i) x
  | .str z _ => eqV (.str z) x
  | _ => false
def inV (x : V) (xs : List V) : Bool := xs.any fun y => eqV y x
/-- x in a list or tuple of flat items -/
def rIn (K : PySem.W.Frag) (neg : Bool) : R2 := fun x y H Q => ∃ p xs, y = .ref p ∧ (SqL K H p xs ∨ SqT K H p xs) ∧ flatV x = true ∧ xs.all flatV = true ∧ Q (.bl (if neg then !inV x xs else inV x xs)) H
theorem op_notIn_str : OpR X (compareOp .NotIn) (fun x y H Q => ∃ i j, x = .str i ∧ y = .str j ∧ Q (.bl (!(!(Builtin.Str.occurrences j i 0 j.length 1).isEmpty))) H) := by
  intro pins s σ H x y v u Q I rx ry h
  obtain ⟨i, j, rfl, rfl, q⟩ := h
  obtain ⟨t, rfl⟩ := rx
  obtain ⟨t', rfl⟩ := ry
  exact notIn_str ⟨.bl _, H, I, rfl, q⟩

/-! ### len, list(x), tuple(x) of any list or tuple that is read -/
theorem call_len_seq : CallR X (.builtin "len") (fun xs H Q => ∃ p ys, xs = [.ref p] ∧ (SqL X.K H p ys ∨ SqT X.K H p ys) ∧ Q (.int ys.length) H) := by
  intro pins s σ H xs us Q I r h
  obtain ⟨p, ys, rfl, hq, q⟩ := h
  obtain ⟨u, rfl, rx⟩ := vals1 r
  cases rx
  have hn := line63
  rcases hq with hq | hq
  · obtain ⟨its, r', pl, hz⟩ := I.list hq
    have hlen := r'.length
    exact Calls.call_len_list pl.isList (by simp only [List.size_toArray] <;> omega) ⟨.int ys.length, H, I.tok _, ⟨s.toks + 1, by rw [List.size_toArray, hlen]⟩, q⟩
  · obtain ⟨its, r', pl, hz⟩ := I.tuple hq
    have hlen := r'.length
    exact len_tuple pl (by simp only [List.size_toArray] <;> omega) ⟨.int ys.length, H, I.tok _, ⟨s.toks + 1, by rw [List.size_toArray, hlen]⟩, q⟩
theorem call_len_str : CallR X (.builtin "len") (fun xs H Q => ∃ z, xs = [.str z] ∧ z.length ≤ sizeLine ∧ Q (.int z.length) H) := by
  intro pins s σ H xs us Q I r h
  obtain ⟨z, rfl, hz, q⟩ := h
  obtain ⟨u, rfl, t, rfl⟩ := vals1 r
  have hn := line63
  exact len_str (by omega) ⟨.int z.length, H, I.tok _, ⟨_, rfl⟩, q⟩
theorem CallR.or {f : Value} {r r' : List V → Hp → VK → Prop} (h : CallR X f r) (h' : CallR X f r') : CallR X f (fun xs H Q => r xs H Q ∨ r' xs H Q) := by
  intro pins s σ H xs us Q I rs q
  rcases q with q | q
  · exact h pins s σ H xs us Q I rs q
  · exact h' pins s σ H xs us Q I rs q
theorem call_tuple_of : CallR X (.type "tuple") (fun xs H Q => ∃ p ys, xs = [.ref p] ∧ ((SqL X.K H p ys ∧ ∀ l, H l = none → Q (.ref l) (upd H l (.tup ys))) ∨ (SqT X.K H p ys ∧ Q (.ref p) H))) := by
  intro pins s σ H xs us Q I r h
  obtain ⟨p, ys, rfl, h⟩ := h
  obtain ⟨u, rfl, rx⟩ := vals1 r
  cases rx
  rcases h with ⟨hq, q⟩ | ⟨hq, q⟩
  · obtain ⟨its, r', pl, hz⟩ := I.list hq
    have hlen := r'.length
    refine call_tuple_list pl.isList (fun h' kp => ?_) (by simp only [List.size_toArray] <;> omega)
    have I1 : Inv X pins σ H { s with heap := h' } := I.kept (t' := s.toks) kp
    have I2 : Inv X pins σ (upd H h'.objs.size (.tup ys)) { s with heap := h'.push { cls := .type "tuple", data := .seq its.toArray } } :=
      I1.laid (t' := s.toks) (fun b o e => Heap.get?_push_of_some _ e) (Nat.le_refl _) (show ObjOk X.prog X.w _ _ _ (.tup ys) from ⟨hz, its, r', IsTupP.new _ _⟩)
    exact ⟨.ref h'.objs.size, _, I2, rfl, q _ (I1.hok.fresh (Nat.le_refl _))⟩
  · obtain ⟨its, r', pl, hz⟩ := I.tuple hq
    exact call_tuple_same pl ⟨.ref p, H, I, rfl, q⟩

/-! ### the call of a builtin's method: o.m(..) -/
/-- the value is of that builtin type -/
def tyV (K : PySem.W.Frag) (T : String) (x : V) (H : Hp) : Prop := match x with
  | .str _ => T = "str"
  | .int _ => T = "int"
  | .ref p => (T = "list" ∧ ∃ xs, SqL K H p xs) ∨ (T = "tuple" ∧ ∃ o, K.lookup p = some o ∧ o.cls = .type "tuple" ∧ o.dict = none) ∨
      (T = "dict" ∧ ((∃ kvs, H p = some (.dK kvs)) ∨ ∃ kvs, H p = some (.dT kvs))) ∨ (T = "set" ∧ ∃ S n, H p = some (.set S n))
  | _ => False
theorem tyV_is {pins : List (Addr × Obj)} {σ : St} {H : Hp} {s : Shared} {T : String} {x : V} {v : Value} (I : Inv X pins σ H s) (r : RelV x v) (ty : tyV X.K T x H) :
    s.TypeIs v T ∧ ∀ a, v = .ref a → ∃ ob, s.heap.get? a = some ob ∧ ob.dict = none := by
  cases x with
  | str z =>
    obtain ⟨t, rfl⟩ := r
    cases (show T = "str" from ty)
    exact ⟨typeIs_str s z t, fun _ e => nomatch e⟩
  | int i =>
    obtain ⟨t, rfl⟩ := r
    cases (show T = "int" from ty)
    exact ⟨typeIs_int s i t, fun _ e => nomatch e⟩
  | ref p =>
    cases r
    rcases ty with ⟨rfl, xs, hq⟩ | ⟨rfl, o, hk, hc, hd⟩ | ⟨rfl, hk⟩ | ⟨rfl, S, n, hk⟩
    · obtain ⟨its, _, pl, _⟩ := I.list hq
      refine ⟨pl.isList.typeIs, fun a e => ?_⟩
      cases e
      obtain ⟨o, n, e, c, hd, _⟩ := pl
      exact ⟨o, e, hd⟩
    · refine ⟨⟨o, I.kIn p o hk, hc⟩, fun a e => ?_⟩
      cases e
      exact ⟨o, I.kIn _ o hk, hd⟩
    · have z : ∃ o, s.heap.get? p = some o ∧ o.ExactDict := by
        rcases hk with ⟨kvs, hk⟩ | ⟨kvs, hk⟩
        · obtain ⟨_, _, _, _, o, _, _, e, ex, _⟩ := I.hok p _ hk
          exact ⟨o, e, ex⟩
        · obtain ⟨_, _, _, _, o, _, _, e, ex, _⟩ := I.hok p _ hk
          exact ⟨o, e, ex⟩
      obtain ⟨o, e, ex⟩ := z
      refine ⟨⟨o, e, ex.1⟩, fun a e2 => ?_⟩
      cases e2
      exact ⟨o, e, ex.2.1⟩
    · obtain ⟨o, _, _, _, e, ex, _⟩ := I.hok p _ hk
      refine ⟨⟨o, e, ex.1⟩, fun a e2 => ?_⟩
      cases e2
      exact ⟨o, e, ex.2.1⟩
  | _ => exact False.elim ty
def tBM0 (K : PySem.W.Frag) (T : String) (r : V → List V → Hp → VK → Prop) (to : TE) : TE := fun σ H Q => to σ H fun x H1 => tyV K T x H1 ∧ r x [] H1 Q
def tBM (K : PySem.W.Frag) (T : String) (r : V → List V → Hp → VK → Prop) (to : TE) (t : TA) : TE := fun σ H Q => to σ H fun x H1 => tyV K T x H1 ∧ t σ H1 fun xs H2 => r x xs H2 Q
variable {o e : Expr} {es : List Expr} {to : TE} {t : TA} {name : Str} {apos cpos : Pos} {T id : String} {r : V → List V → Hp → VK → Prop}
theorem pe_bm (pa : PlainAttrs T) (slot : Slot T name id) (hty : typeOf (.builtin id) = pure (.type "method_descriptor")) (hm : MtR X id r) (ho : PE X o to) (ha : PA X (e :: es) t)
    (hbase : attributeBase o name X.env (eval o X.env) = eval o X.env := by rfl)
    (hfew : ((backTo cpos (starEach (e :: es) X.env)).all (fun x => !x.1) && (backToKw cpos (keywordEach [] X.env)).all (fun x => x.1.isSome)
      && decide ((e :: es).length + ([] : List Keyword).length + (if ([] : List Keyword).isEmpty then 0 else 1) < 30)) = true := by rfl)
    (hline : (apos.endLine == cpos.line) = true := by rfl) (hs : starEach (e :: es) X.env = (false, eval e X.env) :: starEach es X.env := by rfl) (hplain : (backTo cpos (starEach es X.env)).any (·.1) = false := by rfl) :
    PE X (.Call (.Attribute o name apos) (e :: es) [] cpos) (tBM X.K T r to t) := by
  intro pins s σ H Q I h
  refine wpAny_Call_method_late hbase hfew hline rfl (thn (ho pins s σ H _ I h) fun v s1 ⟨x, H1, I1, r1, ty, q1⟩ => ?_)
  obtain ⟨h1, h2⟩ := tyV_is I1 r1 ty
  refine ⟨T, id, pa, slot, hty, h1, h2, ?_⟩
  have hA := ha cpos pins s1 σ H1 _ I1 q1
  rw [hs] at hA ⊢
  refine Calls.callWith_builtin (by show (false || (backTo cpos (starEach es X.env)).any (·.1)) = false; rw [hplain] <;> rfl) (Calls.evalArgs_plain ?_)
  exact thn hA fun us s2 ⟨vs, H2, I2, r2, q2⟩ => hm pins s2 σ H2 x vs v us Q I2 r1 r2 q2
/- xs.append(e), list.index on a module's tuple .. are MtR facts of 06m -/
end
end L2

namespace L2
open PySem PySem.Spec PyProof.Rows

def MtM (X : Cx) (id : String) (r : V → List V → Hp → VK → Prop) : Prop :=
  ∀ (pins : List (Addr × Obj)) (s : Shared) (σ : St) (H : Hp) (x : V) (xs : List V) (v : Value) (us : List Value) (Q : VK), Inv X pins σ H s → RelV x v → Vals xs us → r x xs H Q →
    wpAny (model X.prog X.w) X.A (call (.builtin id) (v :: us)) (EP X pins σ Q) X.xe s

/-! ### lists of values -/
theorem Vals.one : ∀ {x : V} {us : List Value}, Vals [x] us → ∃ u, us = [u] ∧ RelV x u
  | _, _, .cons r .nil => ⟨_, rfl, r⟩
theorem Vals.two : ∀ {x y : V} {us : List Value}, Vals [x, y] us → ∃ u v, us = [u, v] ∧ RelV x u ∧ RelV y v
  | _, _, _, .cons r (.cons q .nil) => ⟨_, _, rfl, r, q⟩
theorem Vals.zero : ∀ {us : List Value}, Vals [] us → us = []
  | _, .nil => rfl
theorem Vals.dropLast {xs : List V} {us : List Value} (h : Vals xs us) : Vals xs.dropLast us.dropLast := by
  induction h with
  | nil => exact .nil
  | cons r t ih =>
    cases t with
    | nil => exact .nil
    | cons q t' => exact .cons r ih
theorem Vals.eraseIdx : ∀ {xs : List V} {us : List Value} (i : Nat), Vals xs us → Vals (xs.eraseIdx i) (us.eraseIdx i)
  | _, _, _, .nil => .nil
  | _, _, 0, .cons _ t => t
  | _, _, i + 1, .cons r t => .cons r (Vals.eraseIdx i t)
theorem Vals.reverse {xs : List V} {us : List Value} (h : Vals xs us) : Vals xs.reverse us.reverse := by
  induction h with
  | nil => exact .nil
  | cons r t ih => rw [List.reverse_cons, List.reverse_cons]; exact Vals.append ih (.cons r .nil)
theorem len_erase {α : Type} : ∀ (l : List α) (i : Nat), (l.eraseIdx i).length ≤ l.length
  | [], _ => Nat.le_refl _
  | _ :: _, 0 => Nat.le_succ _
  | _ :: r, i + 1 => Nat.succ_le_succ (len_erase r i)
section
variable {X : Cx} {pins : List (Addr × Obj)} {σ : St} {H : Hp} {s : Shared} {l b : Addr} {xs ys zs : List V}

/-! ### the two steps: a tracked list is rewritten, a new list is laid -/
theorem Inv.lset {its its' : List Value} {n : Nat} {f : Array Value → Array Value} {t' : Nat} (I : Inv X pins σ H s) (hH : H l = some (.lst xs))
    (e : s.heap.get? l = some { cls := .type "list", data := .seq its.toArray n }) (hf : f its.toArray = its'.toArray) (hv : Vals ys its') (hz : ys.length ≤ sizeLine) :
    Inv X pins σ (upd H l (.lst ys)) { s with heap := s.heap.update l (Obj.mapSeq f), toks := t' } := by
  have q := PySem.IsL.update e f
  rw [hf] at q
  refine I.write (x := l) (e := l) (by rw [hH]; exact trivial) (.inl rfl) (fun b' u hb hu => (Heap.get?_update_other s.heap (Obj.mapSeq f) (Ne.symm hb)).trans hu) ⟨_, q⟩ ?_
  exact ⟨hz, its', _, hv, q⟩
theorem Inv.lnew {its : List Value} {t' : Nat} (I : Inv X pins σ H s) (hv : Vals ys its) (hz : ys.length ≤ sizeLine) :
    Inv X pins σ (upd H s.heap.objs.size (.lst ys)) { s with heap := s.heap.push { cls := .type "list", data := .seq its.toArray }, toks := t' } :=
  I.laid (fun _ _ q => Heap.get?_push_of_some _ q) (Nat.le_refl _) ⟨hz, its, 0, hv, Heap.get?_push_size _ rfl⟩
theorem Inv.fresh (I : Inv X pins σ H s) : H s.heap.objs.size = none := I.hok.fresh (Nat.le_refl _)
theorem Inv.lstM (I : Inv X pins σ H s) (hH : H l = some (.lst xs)) : xs.length ≤ sizeLine ∧ ∃ (its : List Value) (n : Nat), Vals xs its ∧ xs.length = its.length ∧ s.heap.get? l = some { cls := .type "list", data := .seq its.toArray n } := by
  obtain ⟨z, its, n, r, e⟩ := I.hok l _ hH
  exact ⟨z, its, n, r, r.length, e⟩

theorem notLongL {n : Nat} (h : n ≤ sizeLine) : Builtin.List.listTooLong n = false := by
  unfold Builtin.List.listTooLong
  exact decide_eq_false (by omega)
end

section
variable {X : Cx}

/-! ### methods -/
def rAppend : V → List V → Hp → VK → Prop := fun x vs H Q => ∃ l xs y, x = .ref l ∧ vs = [y] ∧ H l = some (.lst xs) ∧ xs.length < sizeLine ∧ Q .non (upd H l (.lst (xs ++ [y])))
theorem mt_append : MtM X "list.append" rAppend := by
  intro pins s σ H x vs v us Q I rx rv h
  obtain ⟨l, xs, y, rfl, rfl, hH, hz, q⟩ := h
  cases rx
  obtain ⟨u, rfl, ru⟩ := rv.one
  obtain ⟨z, its, n, r, hl, e⟩ := I.lstM hH
  refine call_meets F.slot_list_append ⟨_, e, rfl⟩ F.entry_list_append (F.args_list_append_2 _ _) (PySem.list_append l its.toArray n u (by rw [List.size_toArray]; omega)) ⟨e, ?_⟩
  refine ⟨.non, _, I.lset (its' := its ++ [u]) hH e (by simp) (r.append (.cons ru .nil)) ?_, rfl, q⟩
  rw [List.length_append, List.length_singleton]
  omega

def rExtend : V → List V → Hp → VK → Prop := fun x vs H Q => ∃ l b xs zs, x = .ref l ∧ vs = [.ref b] ∧ H l = some (.lst xs) ∧ H b = some (.lst zs) ∧ xs.length + zs.length ≤ sizeLine ∧ Q .non (upd H l (.lst (xs ++ zs)))
def rPop : V → List V → Hp → VK → Prop := fun x vs H Q => ∃ l xs y, x = .ref l ∧ vs = [] ∧ H l = some (.lst xs) ∧ xs[xs.length - 1]? = some y ∧ Q y (upd H l (.lst xs.dropLast))
def rPopAt : V → List V → Hp → VK → Prop := fun x vs H Q => ∃ l xs i k y, x = .ref l ∧ vs = [.int i] ∧ H l = some (.lst xs) ∧ -(2 ^ 63) ≤ i ∧ i < 2 ^ 63 ∧ seqIndex? i xs.length = some k ∧ xs[k]? = some y ∧ Q y (upd H l (.lst (xs.eraseIdx k)))
theorem mt_popAt : MtM X "list.pop" rPopAt := by
  intro pins s σ H x vs v us Q I rx rv h
  obtain ⟨l, xs, i, k, y, rfl, rfl, hH, h1, h2, hk, hy, q⟩ := h
  cases rx
  obtain ⟨u, rfl, ru⟩ := rv.one
  obtain ⟨t, rfl⟩ := ru
  obtain ⟨z, its, n, r, hl, e⟩ := I.lstM hH
  obtain ⟨w, hw, rw'⟩ := r.get hy
  refine call_meets F.slot_list_pop ⟨_, e, rfl⟩ F.entry_list_pop (F.args_list_pop_2 _ _)
    (MeetsSeq.list_pop_at l its.toArray n i t k w (fitsIndex_both h1 h2) (by rw [List.size_toArray, ← hl]; exact hk) (by rw [← Array.getElem?_toList]; exact hw) (by rw [List.size_toArray]; omega)) ⟨e, ?_⟩
  refine ⟨y, _, I.lset (its' := its.eraseIdx k) hH e ?_ (r.eraseIdx k) ?_, rw', q⟩
  · show its.toArray.eraseIdxIfInBounds k = (its.eraseIdx k).toArray
    rw [List.eraseIdxIfInBounds_toArray]
  · have := len_erase xs k
    omega

def rReverse : V → List V → Hp → VK → Prop := fun x vs H Q => ∃ l xs, x = .ref l ∧ vs = [] ∧ H l = some (.lst xs) ∧ Q .non (upd H l (.lst xs.reverse))
def rClear : V → List V → Hp → VK → Prop := fun x vs H Q => ∃ l xs, x = .ref l ∧ vs = [] ∧ H l = some (.lst xs) ∧ Q .non (upd H l (.lst []))
/-! ### list + list, list += list, list * int -/
def rCat : R2 := fun x y H Q => ∃ l b xs zs, x = .ref l ∧ y = .ref b ∧ H l = some (.lst xs) ∧ H b = some (.lst zs) ∧ xs.length + zs.length ≤ sizeLine ∧ ∀ p, H p = none → Q (.ref p) (upd H p (.lst (xs ++ zs)))
theorem op_cat : OpR X (binaryOp .Add) rCat := by
  intro pins s σ H x y v u Q I rx ry h
  obtain ⟨l, b, xs, zs, rfl, rfl, hH, hB, hz, q⟩ := h
  cases rx
  cases ry
  obtain ⟨z, its, n, r, hl, e⟩ := I.lstM hH
  obtain ⟨z2, its2, n2, r2, hl2, e2⟩ := I.lstM hB
  refine PySem.P.add_list e e2 ?_ (by rw [List.size_toArray, List.size_toArray]; omega)
  have ea : its.toArray ++ its2.toArray = (its ++ its2).toArray := by simp
  rw [ea]
  exact ⟨.ref _, _, I.lnew (t' := s.toks) (r.append r2) (by rw [List.length_append]; omega), rfl, q _ I.fresh⟩
/-- a list times an int (a negative one is nothing) -/
def rRep : R2 := fun x y H Q => ∃ l k xs, x = .ref l ∧ y = .int k ∧ H l = some (.lst xs) ∧ -(2 ^ 63) ≤ k ∧ k < 2 ^ 63 ∧ xs.length * k.toNat ≤ sizeLine ∧
  ∀ p, H p = none → Q (.ref p) (upd H p (.lst (List.replicate k.toNat xs).flatten))
/-! ### del xs[i] -/
end

/-! ### xs[a:b] = ys -/
section
variable {prog : Program} {w : World} {A : Around} {E : Value → Shared → Prop} {s : Shared}
theorem bounds_run {a c n : Nat} (hac : a ≤ c) (hc : c ≤ n) : sliceBounds (some (a : Int)) (some (c : Int)) none n = ((a : Int), (c : Int), 1) := by
  simp only [sliceBounds, Option.getD_none]
  have h1 : ¬ ((a : Int) < 0) := by omega
  have h2 : ¬ ((c : Int) < 0) := by omega
  simp only [h1, h2, if_false, show (1 : Int) > 0 by decide, if_true]
  congr 1
  · omega
  · congr 1; omega
set_option maxRecDepth 100000 in
/-- list.__setitem__ with a slice of step one and another list -/
theorem setItem_slice {l b sl : Addr} {items new : Array Value} {n n2 : Nat} {vl vu : Value} {a c : Nat} {Q : Unit → Shared → Prop}
    (e : s.heap.get? l = some { cls := .type "list", data := .seq items n }) (e2 : s.heap.get? b = some { cls := .type "list", data := .seq new n2 }) (hne : l ≠ b)
    (hs : s.heap.IsSliceOf sl vl vu .none) (pl : IsPart vl (some (a : Int))) (pu : IsPart vu (some (c : Int))) (hac : a ≤ c) (hc : c ≤ items.size)
    (hsz : items.size + new.size ≤ sizeLine) (h : Q () { s with heap := s.heap.update l (Obj.mapSeq fun xs => xs.extract 0 a ++ new ++ xs.extract c xs.size) }) :
    wpAny (model prog w) A (setItem (.ref l) (.ref sl) (.ref b)) Q E s := by
  have hl : s.heap.IsList l items := PySem.IsL.isList e
  have hb : s.heap.IsList b new := PySem.IsL.isList e2
  obtain ⟨os, hos, hcs, hds⟩ := id hs
  have hTs : s.TypeIs (.ref sl) "slice" := ⟨os, hos, hcs⟩
  have hstep : ¬ ((rawPart none == rawInt 0) = true) := Bool.false_ne_true
  have hsame : Builtin.List.listSameRef (.ref l) (.ref b) = false := by
    unfold Builtin.List.listSameRef
    exact beq_eq_false_iff_ne.mpr hne
  have hmax : (max (a : Int) (c : Int)).toNat = c := by omega
  have hz' : ((fun xs : Array Value => xs.extract 0 a ++ new ++ xs.extract c xs.size) items).size ≤ sizeLine + 1 := by
    simp only [Array.size_append, Array.size_extract]
    omega
  unfold setItem
  try with_reducible refine wpAny_holding ?_
  first | refine wpAny_bind (wpAny_pure ?_) | skip
  refine wpAny_bind (wpAny_sequenceKey hl.typeIs (by decide) ?_)
  refine wpAny_bind (wpAny_callSpecial?_slot (name := Str.ofString "__setitem__") hl.typeIs slot_list_setitem
    (wpAny_call_entry slot_list_setitem hl.typeIs entry_list_setitem ?_ (args_list_setitem _ _ _)))
  show wpAny _ _ (Builtin.List.listSubscript? (.ref sl) >>= _) _ _ s
  refine wpAny_bind ?_
  unfold Builtin.List.listSubscript?
  refine wpAny_bind (wpAny_specialOf hTs slice_no_index ?_)
  simp only [Option.isNone_none, if_true]
  refine wpAny_pure ?_
  show wpAny _ _ (typeOf (.ref sl) >>= _) _ _ s
  refine wpAny_bind (wpAny_typeOf hTs ?_)
  first
    | rw [if_neg (by decide)]
    | refine PySem.W.KFB.if_not (by decide) ?_
  rw [listSliceParts_eq]
  refine wpAny_bind (wpAny_bind (wpAny_field hos hds (x := .none) rfl (wpAny_bind (wpAny_listPart .none ?_))))
  rw [if_neg hstep]
  refine wpAny_bind (wpAny_field hos hds (x := vl) rfl (wpAny_bind (wpAny_listPart pl ?_)))
  refine wpAny_bind (wpAny_field hos hds (x := vu) rfl (wpAny_bind (wpAny_listPart pu (wpAny_pure ?_))))
  first
    | simp only [hsame, Bool.false_eq_true, if_false]
    | refine PySem.W.KFB.if_not hsame ?_
    | (dsimp only
       rw [if_neg (by rw [hsame]; exact Bool.false_ne_true)])
  refine wpAny_bind (m := Builtin.List.listAllItems (.ref b) "must assign iterable to extended slice") ?_
  unfold Builtin.List.listAllItems
  refine wpAny_bind (wpAny_typeOf hb.typeIs ?_)
  first
    | refine PySem.W.KFB.if_so (by decide) ?_
    | rw [if_pos (by decide)]
    | simp only [beq_self_eq_true, Bool.true_or, if_true]
  unfold Builtin.List.listItems
  refine wpAny_bind (wpAny_seqItems e2 rfl (wpAny_pure ?_))
  refine wpAny_bind (wpAny_bind (wpAny_seqItems e rfl (wpAny_pure ?_)))
  refine wpAny_bind (wpAny_of_eq ((sliceIndices_raw (some (a : Int)) (some (c : Int)) none items.size (by simp)).trans (congrArg (pure : Int × Int × Int → Sem (Int × Int × Int)) (bounds_run hac hc))) ?_)
  show wpAny _ _ (if ((1 : Int) == 1) = true then _ else _) _ _ s
  rw [if_pos (by decide)]
  refine wpAny_bind (wpAny_rule ?_)
  first
    | simp only [notLongL hsz, Bool.false_eq_true, if_false]
    | refine PySem.W.KFB.if_not (notLongL hsz) ?_
  first | refine wpAny_bind (wpAny_pure ?_) | skip
  show wpAny _ _ (updateSeq l (fun xs => xs.extract 0 ((a : Int)).toNat ++ new ++ xs.extract (max (a : Int) (c : Int)).toNat xs.size) >>= _) _ _ s
  rw [hmax, Int.toNat_natCast]
  refine wpAny_bind (wpAny_updateSeq (hz := Nat.le_trans (Nat.le_add_right _ _) hsz) (_hz' := hz') e rfl ?_)
  refine wpAny_bind (wpAny_letGo ?_)
  first
    | exact wpAny_bind (wpAny_pure (wpAny_pure ⟨.none, rfl, wpAny_pure h⟩))
    | exact wpAny_pure ⟨.none, rfl, wpAny_pure h⟩
end

section
variable {X : Cx}
end
end L2

namespace L2
open PySem PySem.Spec PyProof.Rows

/-! ### lists of pairs as tables -/
section
variable {κ : Type} [DecidableEq κ]
def valV (kvs : List (κ × V)) (k : κ) : Option V := (kvs.find? fun kv => decide (kv.1 = k)).map (·.2)
/-- in its place, or at the end -/
def putK (kvs : List (κ × V)) (k : κ) (v : V) : List (κ × V) :=
  if (kvs.any fun kv => decide (kv.1 = k)) = true then kvs.map (fun kv => if kv.1 = k then (kv.1, v) else kv) else kvs ++ [(k, v)]
def dropK (kvs : List (κ × V)) (k : κ) : List (κ × V) := kvs.filter fun kv => decide (kv.1 ≠ k)

theorem valV_pos {p : κ × V} {r : List (κ × V)} {k : κ} (e : p.1 = k) : valV (p :: r) k = some p.2 := by simp [valV, List.find?_cons, e]
theorem valV_neg {p : κ × V} {r : List (κ × V)} {k : κ} (e : ¬ p.1 = k) : valV (p :: r) k = valV r k := by simp [valV, List.find?_cons, e]
theorem valV_any (k : κ) : ∀ kvs : List (κ × V), (kvs.any fun kv => decide (kv.1 = k)) = (valV kvs k).isSome
  | [] => rfl
  | p :: r => by
    rw [List.any_cons]
    by_cases e : p.1 = k
    · simp only [valV_pos e, decide_eq_true e, Bool.true_or, Option.isSome_some]
    · rw [valV_neg e, decide_eq_false e, Bool.false_or]; exact valV_any k r
theorem valV_map (k j : κ) (y : V) : ∀ kvs : List (κ × V), valV (kvs.map fun kv => if kv.1 = k then (kv.1, y) else kv) j = (valV kvs j).map fun x => if j = k then y else x
  | [] => rfl
  | p :: r => by
    have ih := valV_map k j y r
    rw [List.map_cons]
    by_cases h : p.1 = k
    · rw [if_pos h]
      by_cases e : p.1 = j
      · rw [valV_pos (p := (p.1, y)) e, valV_pos e, Option.map_some, if_pos (e.symm.trans h)]
      · rw [valV_neg (p := (p.1, y)) e, valV_neg e, ih]
    · rw [if_neg h]
      by_cases e : p.1 = j
      · rw [valV_pos (p := p) e, valV_pos e, Option.map_some, if_neg (fun z => h (e.trans z))]
      · rw [valV_neg (p := p) e, valV_neg e, ih]
theorem valV_snoc (k j : κ) (y : V) : ∀ kvs : List (κ × V), valV kvs k = none → valV (kvs ++ [(k, y)]) j = if j = k then some y else valV kvs j
  | [], _ => by
    by_cases e : k = j
    · rw [if_pos e.symm]; exact valV_pos (p := (k, y)) e
    · rw [if_neg (fun z => e z.symm)]; exact valV_neg (p := (k, y)) e
  | p :: r, hn => by
    rw [List.cons_append]
    have hk : ¬ p.1 = k := fun z => by rw [valV_pos z] at hn; cases hn
    rw [valV_neg hk] at hn
    have ih := valV_snoc k j y r hn
    by_cases e : p.1 = j
    · rw [valV_pos e, valV_pos e, if_neg (fun z => hk (e.trans z))]
    · rw [valV_neg e, valV_neg e, ih]
theorem valV_put (kvs : List (κ × V)) (k j : κ) (y : V) : valV (putK kvs k y) j = if j = k then some y else valV kvs j := by
  unfold putK
  by_cases a : (kvs.any fun kv => decide (kv.1 = k)) = true
  · rw [if_pos a, valV_map]
    rw [valV_any] at a
    by_cases e : j = k
    · obtain ⟨x, hx⟩ := Option.isSome_iff_exists.mp a
      rw [if_pos e, e, hx, Option.map_some, if_pos rfl]
    · rw [if_neg e]
      cases valV kvs j with
      | none => rfl
      | some x => rw [Option.map_some, if_neg e]
  · rw [if_neg a]
    refine valV_snoc k j y kvs ?_
    rw [valV_any] at a
    cases q : valV kvs k with
    | none => rfl
    | some x => rw [q] at a; exact (a rfl).elim
theorem length_putK (kvs : List (κ × V)) (k : κ) (v : V) : (putK kvs k v).length ≤ kvs.length + 1 := by
  unfold putK
  split
  · rw [List.length_map]; omega
  · rw [List.length_append, List.length_cons, List.length_nil]; omega
theorem putK_new {kvs : List (κ × V)} {k : κ} (v : V) (h : valV kvs k = none) : putK kvs k v = kvs ++ [(k, v)] := by
  unfold putK
  rw [valV_any, h]
  exact if_neg (by decide)

theorem RelO.isSome_eq {o : Option V} {u : Option Value} (r : RelO o u) : o.isSome = u.isSome := by
  cases o with
  | none => cases u with
    | none => rfl
    | some _ => exact (show False from r).elim
  | some _ => cases u with
    | none => exact (show False from r).elim
    | some _ => rfl
theorem RelO.getD {o : Option V} {u : Option Value} {d : V} {d' : Value} (r : RelO o u) (rd : RelV d d') : RelV (o.getD d) (u.getD d') := by
  cases o with
  | none => cases u with
    | none => exact rd
    | some _ => exact (show False from r).elim
  | some _ => cases u with
    | none => exact (show False from r).elim
    | some _ => exact r

/-- raw tables of the same keys -/
theorem KV.val {kvs : List (κ × V)} {vs : List (κ × Value)} (r : KV kvs vs) (k : κ) : RelO (valV kvs k) (valueAt vs k) := by
  unfold KV at r
  induction r with
  | nil => exact True.intro
  | @cons p q ps qs h t ih =>
    obtain ⟨h1, h2⟩ := h
    by_cases e : p.1 = k
    · have e' : q.1 = k := h1.symm.trans e
      have b : valueAt (q :: qs) k = some q.2 := by simp [valueAt, List.find?_cons, e']
      rw [valV_pos e, b]; exact h2
    · have e' : ¬ q.1 = k := fun z => e (h1.trans z)
      have b : valueAt (q :: qs) k = valueAt qs k := by simp [valueAt, List.find?_cons, e']
      rw [valV_neg e, b]; exact ih
theorem KV.any {kvs : List (κ × V)} {vs : List (κ × Value)} (r : KV kvs vs) (k : κ) : (kvs.any fun kv => decide (kv.1 = k)) = vs.any fun kv => decide (kv.1 = k) := by
  unfold KV at r
  induction r with
  | nil => rfl
  | cons h t ih => rw [List.any_cons, List.any_cons, ih, h.1]
theorem KV.repl {kvs : List (κ × V)} {vs : List (κ × Value)} (r : KV kvs vs) (k : κ) {y : V} {u : Value} (ry : RelV y u) :
    KV (kvs.map fun kv => if kv.1 = k then (kv.1, y) else kv) (vs.map fun kv => if kv.1 = k then (kv.1, u) else kv) := by
  unfold KV at r ⊢
  induction r with
  | nil => exact .nil
  | @cons p q ps qs h t ih =>
    rw [List.map_cons, List.map_cons]
    refine .cons ?_ ih
    obtain ⟨h1, h2⟩ := h
    by_cases e : p.1 = k
    · rw [if_pos e, if_pos (h1.symm.trans e)]; exact ⟨h1, ry⟩
    · rw [if_neg e, if_neg (fun z => e (h1.trans z))]; exact ⟨h1, h2⟩
theorem KV.put {kvs : List (κ × V)} {vs : List (κ × Value)} (r : KV kvs vs) (k : κ) {y : V} {u : Value} (ry : RelV y u) : KV (putK kvs k y) (stored vs k u) := by
  unfold putK stored
  rw [r.any k]
  by_cases e : (vs.any fun kv => decide (kv.1 = k)) = true
  · rw [if_pos e, if_pos e]; exact r.repl k ry
  · rw [if_neg e, if_neg e]; exact Paired.snoc r ⟨rfl, ry⟩
theorem KV.drop {kvs : List (κ × V)} {vs : List (κ × Value)} (r : KV kvs vs) (k : κ) : KV (dropK kvs k) (without vs k) := by
  unfold KV at r ⊢
  unfold dropK without
  induction r with
  | nil => exact .nil
  | @cons p q ps qs h t ih =>
    obtain ⟨h1, h2⟩ := h
    rw [List.filter_cons, List.filter_cons]
    by_cases e : p.1 = k
    · have a : ¬ decide (p.1 ≠ k) = true := by simp [e]
      have b : ¬ decide (q.1 ≠ k) = true := by simp [h1.symm.trans e]
      rw [if_neg a, if_neg b]; exact ih
    · have e' : ¬ q.1 = k := fun z => e (h1.trans z)
      have a : decide (p.1 ≠ k) = true := by simp [e]
      have b : decide (q.1 ≠ k) = true := by simp [e']
      rw [if_pos a, if_pos b]; exact .cons ⟨h1, h2⟩ ih
theorem KV.keys {kvs : List (κ × V)} {vs : List (κ × Value)} (r : KV kvs vs) : kvs.map (·.1) = vs.map (·.1) := by
  unfold KV at r
  induction r with
  | nil => rfl
  | cons h t ih => rw [List.map_cons, List.map_cons, ih, h.1]
theorem KV.length {kvs : List (κ × V)} {vs : List (κ × Value)} (r : KV kvs vs) : kvs.length = vs.length := Paired.length r
end


/-! ### a tracked dict, its keys ints and texts or tuples of these -/
theorem kV_is {P : Program} {w : World} {k : Key} {u : Value} (r : RelV (kV k) u) : (mixKind P w).is k u = true := by
  cases k with
  | inl i => obtain ⟨t, e⟩ := (show ∃ t, u = Value.int i t from r); subst e; exact mixKind_int P w i t
  | inr x => obtain ⟨t, e⟩ := (show ∃ t, u = Value.str x t from r); subst e; exact mixKind_str P w x t
theorem items_are {P : Program} {w : World} : ∀ {ks : List Key} {us : List Value}, Vals (ks.map kV) us → ItemsAre (mixKind P w) ks us
  | [], _, r => by rw [List.map_nil] at r; cases r; exact .nil
  | k :: ks, _, r => by
    rw [List.map_cons] at r
    cases r with
    | cons h t => exact .cons (kV_is h) (items_are t)

/-- raw entries of a dict with tuple keys -/
abbrev KT (H : Hp) : List (List Key × V) → List (List Key × Addr × Value) → Prop := Paired fun p q => p.1 = q.1 ∧ H q.2.1 = some (.tup (p.1.map kV)) ∧ RelV p.2 q.2.2
theorem KT.val {H : Hp} {kvs : List (List Key × V)} {xs : List (List Key × Addr × Value)} (r : KT H kvs xs) (k : List Key) : RelO (valV kvs k) ((atKey xs k).map (·.2)) := by
  induction r with
  | nil => exact True.intro
  | @cons p q ps qs h t ih =>
    obtain ⟨h1, _, h2⟩ := h
    by_cases e : p.1 = k
    · have e' : q.1 = k := h1.symm.trans e
      have b : atKey (q :: qs) k = some q.2 := by simp [atKey, List.find?_cons, e']
      rw [valV_pos e, b]; exact h2
    · have e' : ¬ q.1 = k := fun z => e (h1.trans z)
      have b : atKey (q :: qs) k = atKey qs k := by simp [atKey, List.find?_cons, e']
      rw [valV_neg e, b]; exact ih
theorem KT.repl {H : Hp} {kvs : List (List Key × V)} {xs : List (List Key × Addr × Value)} (r : KT H kvs xs) (k : List Key) {y : V} {u : Value} (ry : RelV y u) :
    KT H (kvs.map fun kv => if kv.1 = k then (kv.1, y) else kv) (xs.map (putAt k u)) := by
  induction r with
  | nil => exact .nil
  | @cons p q ps qs h t ih =>
    rw [List.map_cons, List.map_cons]
    refine .cons ?_ ih
    obtain ⟨h1, h2, h3⟩ := h
    unfold putAt
    by_cases e : p.1 = k
    · rw [if_pos e, if_pos (h1.symm.trans e)]; exact ⟨h1, h2, ry⟩
    · rw [if_neg e, if_neg (fun z => e (h1.trans z))]; exact ⟨h1, h2, h3⟩
theorem KT.put {H : Hp} {kvs : List (List Key × V)} {xs : List (List Key × Addr × Value)} (r : KT H kvs xs) (k : List Key) {b : Addr} {y : V} {u : Value} (hb : H b = some (.tup (k.map kV))) (ry : RelV y u) :
    KT H (putK kvs k y) (storedH xs k b u) := by
  have e : (kvs.any fun kv => decide (kv.1 = k)) = (atKey xs k).isSome := by
    rw [valV_any, (r.val k).isSome_eq, Option.isSome_map]
  unfold putK storedH
  rw [e]
  by_cases q : (atKey xs k).isSome = true
  · rw [if_pos q, if_pos q]; exact r.repl k ry
  · rw [if_neg q, if_neg q]; exact Paired.snoc r ⟨rfl, hb, ry⟩
theorem KT.keeps {H H' : Hp} {kvs : List (List Key × V)} {xs : List (List Key × Addr × Value)} (r : KT H kvs xs) (ht : ∀ b ys, H b = some (.tup ys) → H' b = some (.tup ys)) : KT H' kvs xs :=
  Paired.mapP r fun _ _ z => ⟨z.1, ht _ _ z.2.1, z.2.2⟩

section
variable {P : Program} {w : World} {H : Hp} {h : Heap} {a : Addr}
theorem rd_of {u : HO} (ok : HOk P w H h) (e : Rd H a u) : ObjOk P w H h a u := e.ok ok
theorem dk_rd {kvs : List (Key × V)} (ok : HOk P w H h) (e : Rd H a (.dK kvs)) : kvs.length ≤ sizeLine ∧ (a == sysModules) = false ∧ ∃ vs, KV kvs vs ∧ h.DictOf (mixKind P w) a vs :=
  show ObjOk P w H h a (.dK kvs) from rd_of ok e
theorem dk_of {kvs : List (Key × V)} (ok : HOk P w H h) (e : H a = some (.dK kvs)) : kvs.length ≤ sizeLine ∧ (a == sysModules) = false ∧ ∃ vs, KV kvs vs ∧ h.DictOf (mixKind P w) a vs := dk_rd ok (.inl e)
/-- a tracked tuple of ints and texts is a key -/
theorem key_of {ks : List Key} (ok : HOk P w H h) (e : H a = some (.tup (ks.map kV))) : (tupleKind (mixKind P w)).is h ks a := by
  obtain ⟨_, its, r, o, h1, h2, _, n, h3⟩ := (show ObjOk P w H h a (.tup (ks.map kV)) from ok a _ e)
  exact ⟨o, its.toArray, n, h1, h2, h3, by simpa using items_are r⟩
theorem dt_rd {kvs : List (List Key × V)} (ok : HOk P w H h) (e : Rd H a (.dT kvs)) : kvs.length ≤ sizeLine ∧ (a == sysModules) = false ∧
    ∃ xs, KT H kvs xs ∧ h.DictOfH (tupleKind (mixKind P w)) a xs := by
  obtain ⟨z, y, xs, r, o, es, ep, h1, h2, h3, h4, h5⟩ := (show ObjOk P w H h a (.dT kvs) from rd_of ok e)
  refine ⟨z, y, xs, r, o, es, ep, h1, h2, h3, h4, fun x hx => ?_, h5⟩
  have all : ∀ {l : List (List Key × V)} {m : List (List Key × Addr × Value)}, KT H l m → ∀ x ∈ m, (tupleKind (mixKind P w)).is h x.1 x.2.1 := by
    intro l m q
    induction q with
    | nil => intro x hx; exact nomatch hx
    | @cons p q ps qs hq t ih =>
      intro x hx
      rcases List.mem_cons.mp hx with e | hx
      · subst e
        exact key_of ok (by rw [← hq.1]; exact hq.2.1)
      · exact ih x hx
  exact all r x hx
theorem dt_of {kvs : List (List Key × V)} (ok : HOk P w H h) (e : H a = some (.dT kvs)) : kvs.length ≤ sizeLine ∧ (a == sysModules) = false ∧
    ∃ xs, KT H kvs xs ∧ h.DictOfH (tupleKind (mixKind P w)) a xs := dt_rd ok (.inl e)
end

/-- what the dict at a holds at the key y -/
def DGet (H : Hp) (a : Addr) (y : V) (r : Option V) : Prop :=
  (∃ kvs k, Rd H a (.dK kvs) ∧ y = kV k ∧ r = valV kvs k) ∨ ∃ kvs k b, Rd H a (.dT kvs) ∧ y = .ref b ∧ H b = some (.tup (k.map kV)) ∧ r = valV kvs k
/-- the heap behind a[y] = v -/
def DPut (H : Hp) (a : Addr) (y v : V) (H' : Hp) : Prop :=
  (∃ kvs k, H a = some (.dK kvs) ∧ y = kV k ∧ kvs.length < sizeLine ∧ H' = upd H a (.dK (putK kvs k v))) ∨
  ∃ kvs k b, H a = some (.dT kvs) ∧ y = .ref b ∧ H b = some (.tup (k.map kV)) ∧ kvs.length < sizeLine ∧ H' = upd H a (.dT (putK kvs k v))
theorem DGet.k {H : Hp} {a : Addr} {kvs : List (Key × V)} {k : Key} (e : H a = some (.dK kvs)) : DGet H a (kV k) (valV kvs k) := .inl ⟨kvs, k, .inl e, rfl, rfl⟩
theorem DGet.t {H : Hp} {a b : Addr} {kvs : List (List Key × V)} {k : List Key} (e : H a = some (.dT kvs)) (eb : H b = some (.tup (k.map kV))) : DGet H a (.ref b) (valV kvs k) := .inr ⟨kvs, k, b, .inl e, rfl, eb, rfl⟩
theorem DPut.k {H : Hp} {a : Addr} {kvs : List (Key × V)} {k : Key} {v : V} (e : H a = some (.dK kvs)) (hl : kvs.length < sizeLine) : DPut H a (kV k) v (upd H a (.dK (putK kvs k v))) := .inl ⟨kvs, k, e, rfl, hl, rfl⟩
theorem DPut.t {H : Hp} {a b : Addr} {kvs : List (List Key × V)} {k : List Key} {v : V} (e : H a = some (.dT kvs)) (eb : H b = some (.tup (k.map kV))) (hl : kvs.length < sizeLine) :
    DPut H a (.ref b) v (upd H a (.dT (putK kvs k v))) := .inr ⟨kvs, k, b, e, rfl, eb, hl, rfl⟩


section
variable {X : Cx} {pins : List (Addr × Obj)} {σ : St} {H : Hp} {s : Shared} {a : Addr} {y v : V} {u r : Value} {o : Option V} {A : Around} {E : Value → Shared → Prop}

theorem Inv.big (I : Inv X pins σ H s) : sysModules < s.heap.objs.size := by
  have h : mainGlobals < s.heap.objs.size := (I.mod.glob.keeps I.bk).lt
  exact Nat.lt_trans (by decide) h

/-- d[y], there -/
theorem d_getItem {Q : Value → Shared → Prop} (hu : A.units + 1 < cLine) (I : Inv X pins σ H s) (g : DGet H a y (some v)) (ry : RelV y u) (h : ∀ w' s', Inv X pins σ H s' → RelV v w' → Q w' s') :
    wpAny (model X.prog X.w) A (getItem (.ref a) u) Q E s := by
  rcases g with ⟨kvs, k, e, ey, l⟩ | ⟨kvs, k, b, e, ey, eb, l⟩
  · subst ey
    obtain ⟨z, hd, vs, rel, dd⟩ := dk_rd I.hok e
    obtain ⟨w', hw, rw'⟩ := RelO.some_of (v := v) (o := valueAt vs k) (by rw [l]; exact rel.val k)
    exact wpAny_getItem_of (kV_is ry) dd.mapOf hw (h w' _ (I.tok _) rw')
  · subst ey
    cases (show u = Value.ref b from ry)
    obtain ⟨z, hd, xs, rel, dd⟩ := dt_rd I.hok e
    obtain ⟨w', hw, rw'⟩ := RelO.some_of (v := v) (o := (atKey xs k).map (·.2)) (by rw [l]; exact rel.val k)
    obtain ⟨p, hp, hp2⟩ := Option.map_eq_some_iff.mp hw
    refine wpAny_getItem_heap (tupleKind_room_in1 hu) (key_of I.hok eb) dd hp ?_
    rw [hp2]
    exact h w' _ (I.tok _) rw'
/-- y in d -/
theorem d_in {Q : Value → Shared → Prop} (hu : A.units + 1 < cLine) (I : Inv X pins σ H s) (g : DGet H a y o) (ry : RelV y u) (h : ∀ s', Inv X pins σ H s' → Q (.bool o.isSome) s') :
    wpAny (model X.prog X.w) A (compareOp .In u (.ref a)) Q E s := by
  rcases g with ⟨kvs, k, e, ey, l⟩ | ⟨kvs, k, b, e, ey, eb, l⟩
  · subst ey
    obtain ⟨z, hd, vs, rel, dd⟩ := dk_rd I.hok e
    refine wpAny_in_of (kV_is ry) hd dd.mapOf ?_
    rw [← (rel.val k).isSome_eq, ← l]
    exact h _ (I.tok _)
  · subst ey
    cases (show u = Value.ref b from ry)
    obtain ⟨z, hd, xs, rel, dd⟩ := dt_rd I.hok e
    refine wpAny_in_heap (tupleKind_room_in1 hu) (key_of I.hok eb) hd dd ?_
    have q := (rel.val k).isSome_eq
    rw [Option.isSome_map] at q
    rw [← q, ← l]
    exact h _ (I.tok _)
theorem d_notIn {Q : Value → Shared → Prop} (hu : A.units + 1 < cLine) (I : Inv X pins σ H s) (g : DGet H a y o) (ry : RelV y u) (h : ∀ s', Inv X pins σ H s' → Q (.bool (!o.isSome)) s') :
    wpAny (model X.prog X.w) A (compareOp .NotIn u (.ref a)) Q E s := by
  rcases g with ⟨kvs, k, e, ey, l⟩ | ⟨kvs, k, b, e, ey, eb, l⟩
  · subst ey
    obtain ⟨z, hd, vs, rel, dd⟩ := dk_rd I.hok e
    refine wpAny_notIn_of (kV_is ry) hd dd.mapOf ?_
    rw [← (rel.val k).isSome_eq, ← l]
    exact h _ (I.tok _)
  · subst ey
    cases (show u = Value.ref b from ry)
    obtain ⟨z, hd, xs, rel, dd⟩ := dt_rd I.hok e
    refine wpAny_notIn_heap (tupleKind_room_in1 hu) (key_of I.hok eb) hd dd ?_
    have q := (rel.val k).isSome_eq
    rw [Option.isSome_map] at q
    rw [← q, ← l]
    exact h _ (I.tok _)
/-- a dict's object is replaced -/
theorem d_write {h' : Heap} {t' : Nat} {ob : HO} (I : Inv X pins σ H s) (mu : Mut (H a)) (hs : Heap.SameBut a s.heap h') (he : ∃ q, h'.get? a = some q) (new : ObjOk X.prog X.w (upd H a ob) h' a ob) :
    Inv X pins σ (upd H a ob) { s with heap := h', toks := t' } :=
  I.write (x := a) (e := a) mu (.inl rfl) (fun b q hb z => (hs.2 b hb).trans z) he new
theorem dk_new {P : Program} {w : World} {H' : Hp} {h' : Heap} {kvs : List (Key × V)} {vs : List (Key × Value)} (z : kvs.length ≤ sizeLine) (hd : (a == sysModules) = false) (rel : KV kvs vs) (dd : h'.DictOf (mixKind P w) a vs) :
    ObjOk P w H' h' a (.dK kvs) := ⟨z, hd, vs, rel, dd⟩
/-- d[y] = v -/
theorem d_setItem {H' : Hp} {Q : Unit → Shared → Prop} (hu : A.units + 1 < cLine) (I : Inv X pins σ H s) (g : DPut H a y v H') (ry : RelV y u) (rv : RelV v r) (h : ∀ s', Inv X pins σ H' s' → Q () s') :
    wpAny (model X.prog X.w) A (setItem (.ref a) u r) Q E s := by
  rcases g with ⟨kvs, k, e, ey, l, eH⟩ | ⟨kvs, k, b, e, ey, eb, l, eH⟩
  · subst ey eH
    obtain ⟨z, hd, vs, rel, dd⟩ := dk_of I.hok e
    have hz : vs.length ≤ sizeLine := by rw [← rel.length]; exact z
    have hl : (putK kvs k v).length ≤ sizeLine := by have := length_putK kvs k v; omega
    refine wpAny_setItem_pairs (hsz := hz) (kV_is ry) dd fun h' dd' hs => h _ ?_
    have he : ∃ q, h'.get? a = some q := let ⟨q, _, _, hq, _⟩ := dd'; ⟨q, hq⟩
    exact d_write I (by rw [e]; exact True.intro) hs he (dk_new hl hd (rel.put k rv) dd')
  · subst ey eH
    cases (show u = Value.ref b from ry)
    obtain ⟨z, hd, xs, rel, dd⟩ := dt_of I.hok e
    have hz : xs.length ≤ sizeLine := by rw [← Paired.length rel]; exact z
    have hl : (putK kvs k v).length ≤ sizeLine := by have := length_putK kvs k v; omega
    refine wpAny_setItem_heap (hsz := hz) (tupleKind_room_in1 hu) (key_of I.hok eb) dd fun h' dd' hs => h _ ?_
    obtain ⟨q, es, ep, hq, h2, h3, h4, _, h5⟩ := dd'
    refine d_write I (by rw [e]; exact True.intro) hs ⟨q, hq⟩ ⟨hl, hd, _, (rel.put k eb rv).keeps fun c ys ec => ?_, q, es, ep, hq, h2, h3, h4, h5⟩
    rw [upd_ne (ne_of ec e (fun z => nomatch z))]
    exact ec
end

section
variable {X : Cx} {pins : List (Addr × Obj)} {σ : St} {H : Hp} {s : Shared} {a : Addr} {kvs : List (Key × V)} {k : Key} {u : Value} {A : Around} {E : Value → Shared → Prop}
end


/-! ### readings and rules -/
/-- the element of a subscription, not a slice -/
def NoSl (i : Expr) : Prop := ∀ ov iv, subscripted i false ov iv = operate [ov, iv] (getItem ov iv)
theorem subD_of {prog : Program} {w : World} {A : Around} {E : Value → Shared → Prop} {s : Shared} {env : Env} {value slice : Expr} {pos : Pos} {T id : String} {Q : Value → Shared → Prop}
    (hl : typeLookup (.type T) "__getitem__" = pure (some (.builtin id))) (hs : NoSl slice)
    (h : wpAny (model prog w) A (eval value env) (fun o s₁ => wpAny (model prog w) A (eval slice env) (fun i s₂ => s₂.TypeIs o T ∧ wpAny (model prog w) A (getItem o i) Q E s₂) E s₁) E s) :
    wpAny (model prog w) A (eval (.Subscript value slice pos) env) Q E s := by
  refine Subscript_ (wpAny_mono h (fun o s₁ h₁ => wpAny_mono h₁ (fun i s₂ h₂ => ?_) fun _ _ x => x) fun _ _ x => x)
  obtain ⟨hT, h₂⟩ := h₂
  unfold subscriptTail
  refine wpAny_bind ?_
  rw [getitemInPython_of_ne hT.not_modules]
  refine wpAny_bind (wpAny_specialOf hT hl ?_)
  have fin : wpAny (model prog w) A (subscripted slice false o i) (fun r s₃ => wpAny (model prog w) A (letTemporaryGo value o r >>= fun _ => pure r) Q E s₃) E s₂ := by
    rw [hs o i]
    exact wpAny_operating (wpAny_mono h₂ (fun r s₃ h₃ => wpAny_bind (wpAny_letTemporaryGo (wpAny_pure h₃))) fun _ _ x => x)
  first
    | exact wpAny_pure (wpAny_bind fin)
    | exact wpAny_bind (wpAny_pure (wpAny_bind fin))
    | exact wpAny_bind fin

theorem dict_typeIs {X : Cx} {pins : List (Addr × Obj)} {σ : St} {H : Hp} {s : Shared} {a : Addr} {y : V} {o : Option V} (I : Inv X pins σ H s) (g : DGet H a y o) : s.TypeIs (.ref a) "dict" := by
  rcases g with ⟨kvs, k, e, _, _⟩ | ⟨kvs, k, b, e, _, _, _⟩
  · obtain ⟨_, _, vs, _, dd⟩ := dk_rd I.hok e
    exact dd.typeIs
  · obtain ⟨_, _, xs, _, dd⟩ := dt_rd I.hok e
    exact dd.typeIs
/-- d[y] -/
def tDGet (td ty : TE) : TE := fun σ H Q => td σ H fun x H1 => ty σ H1 fun y H2 => ∃ a v, x = .ref a ∧ DGet H2 a y (some v) ∧ Q v H2
/-- y in d, y not in d -/
def tDIn (ty td : TE) : TE := fun σ H Q => ty σ H fun y H1 => td σ H1 fun x H2 => ∃ a o, x = .ref a ∧ DGet H2 a y o ∧ Q (.bl o.isSome) H2
def tDNotIn (ty td : TE) : TE := fun σ H Q => ty σ H fun y H1 => td σ H1 fun x H2 => ∃ a o, x = .ref a ∧ DGet H2 a y o ∧ Q (.bl (!o.isSome)) H2
/-- d[y] = v -/
def sDPut (td ty tv : TE) : TS := fun D σ H => tv σ H fun v H1 => td σ H1 fun x H2 => ty σ H2 fun y H3 => ∃ a H4, x = .ref a ∧ DPut H3 a y v H4 ∧ D.nx σ H4
/-- d[y] op= v -/
def sDAug (td ty tv : TE) (rd : V → V → Hp → VK → Prop) : TS := fun D σ H => td σ H fun x H1 => ty σ H1 fun y H2 => ∃ a v, x = .ref a ∧ DGet H2 a y (some v) ∧
  tv σ H2 fun y2 H3 => rd v y2 H3 fun z H4 => ∃ H5, DPut H4 a y z H5 ∧ D.nx σ H5
/-- del d[y] -/
def sDDel (td ty : TE) : TS := fun D σ H => td σ H fun x H1 => ty σ H1 fun y H2 => ∃ a kvs k, x = .ref a ∧ H2 a = some (.dK kvs) ∧ y = kV k ∧ (valV kvs k).isSome = true ∧ D.nx σ (upd H2 a (.dK (dropK kvs k)))

section
variable {X : Cx} {o i e value : Expr} {pos pos' tpos : Pos} {td ty tv : TE}
theorem pe_dget (hu : X.A.units + 1 < cLine) (ho : PE X o td) (hi : PE X i ty) (hs : NoSl i) : PE X (.Subscript o i pos) (tDGet td ty) := by
  intro pins s σ H Q I h
  refine subD_of PySem.F.slot_dict_getitem.lookup hs (thn (ho pins s σ H _ I h) fun u s1 ⟨x, H1, I1, rx, q1⟩ => thn (hi pins s1 σ H1 _ I1 q1) fun iv s2 ⟨y, H2, I2, ry, a, v, ex, g, q2⟩ => ?_)
  subst ex
  obtain rfl : u = Value.ref a := rx
  exact ⟨dict_typeIs I2 g, d_getItem hu I2 g ry fun w' s3 I3 rw' => ⟨v, H2, I3, rw', q2⟩⟩
theorem pc_din (hu : X.A.units + 1 < cLine) (hi : PE X i ty) (ho : PE X o td) : PC X .In i o (tDIn ty td) := by
  intro pins s σ H Q I h
  refine thn (hi pins s σ H _ I h) fun iv s1 ⟨y, H1, I1, ry, q1⟩ => thn (ho pins s1 σ H1 _ I1 q1) fun u s2 ⟨x, H2, I2, rx, a, ov, ex, g, q2⟩ => ?_
  subst ex
  obtain rfl : u = Value.ref a := rx
  exact d_in hu I2 g ry fun s3 I3 => ⟨.bl ov.isSome, H2, I3, rfl, q2⟩
theorem pc_dnotin (hu : X.A.units + 1 < cLine) (hi : PE X i ty) (ho : PE X o td) : PC X .NotIn i o (tDNotIn ty td) := by
  intro pins s σ H Q I h
  refine thn (hi pins s σ H _ I h) fun iv s1 ⟨y, H1, I1, ry, q1⟩ => thn (ho pins s1 σ H1 _ I1 q1) fun u s2 ⟨x, H2, I2, rx, a, ov, ex, g, q2⟩ => ?_
  subst ex
  obtain rfl : u = Value.ref a := rx
  exact d_notIn hu I2 g ry fun s3 I3 => ⟨.bl (!ov.isSome), H2, I3, rfl, q2⟩
theorem ps_dput (hu : X.A.units + 1 < cLine) (ho : PE X o td) (hi : PE X i ty) (hv : PE X value tv) (hs : swapsWith value (some (.Subscript o i pos')) pos.line X.env = pure false) :
    PS X (.Assign [.Subscript o i pos'] value pos) (sDPut td ty tv) := by
  intro pins s σ H D I h
  refine wpAny_Assign_Subscript (thn (hv pins s σ H _ I h) fun r s1 ⟨v, H1, I1, rv, q1⟩ => thn (ho pins s1 σ H1 _ I1 q1) fun u s2 ⟨x, H2, I2, rx, q2⟩ => thn (hi pins s2 σ H2 _ I2 q2) fun iv s3 ⟨y, H3, I3, ry, a, H4, ex, g, q3⟩ => ?_) hs
  subst ex
  obtain rfl : u = Value.ref a := rx
  exact d_setItem hu I3 g ry rv fun s4 I4 => ⟨σ, H4, I4, q3⟩
end


/-! ### displays -/
theorem dk_empty {P : Program} {w : World} {H : Hp} (h : Heap) (hb : sysModules < h.objs.size) : ObjOk P w H (h.push { cls := .type "dict", data := .dict #[] }) h.objs.size (.dK []) :=
  ⟨Nat.zero_le _, beq_eq_false_iff_ne.mpr (Ne.symm (Nat.ne_of_lt hb)), [], .nil, Heap.DictOf.new h⟩
/-- {}, to be a dict of the kind that is wanted -/
def tDNewK : TE := fun _ H Q => ∀ p, H p = none → Q (.ref p) (upd H p (.dK []))
def tDNewT : TE := fun _ H Q => ∀ p, H p = none → Q (.ref p) (upd H p (.dT []))
section
variable {X : Cx} {pos : Pos}
theorem pe_dnewK : PE X (.Dict [] [] pos) tDNewK := fun pins s σ H Q I h =>
  wpAny_Dict_empty ⟨.ref s.heap.objs.size, _, I.laid (a := s.heap.objs.size) (o := .dK []) (t' := s.toks) (fun _ _ q => Heap.get?_push_of_some _ q) (Nat.le_refl _) (dk_empty s.heap I.big), rfl, h _ (I.hok.fresh (Nat.le_refl _))⟩
end

/-- the pairs of a display, from the left -/
def tPairs : List (TE × TE) → St → Hp → (List (V × V) → Hp → Prop) → Prop
  | [], _, H, Q => Q [] H
  | (tk, tv) :: r, σ, H, Q => tk σ H fun x H1 => tv σ H1 fun y H2 => tPairs r σ H2 fun ps H3 => Q ((x, y) :: ps) H3
abbrev VV : List (V × V) → List (Value × Value) → Prop := Paired fun p q => RelV p.1 q.1 ∧ RelV p.2 q.2
def PPs (X : Cx) (pos : Pos) (keys : List (Option Expr)) (values : List Expr) (trs : List (TE × TE)) : Prop :=
  ∀ (pins : List (Addr × Obj)) (s : Shared) (σ : St) (H : Hp) (Q : List (V × V) → Hp → Prop), Inv X pins σ H s → tPairs trs σ H Q →
    wpAny (model X.prog X.w) X.A (evalPairs (pairTrees keys values X.env pos)) (fun vs s' => ∃ ps H', Inv X pins σ H' s' ∧ VV ps vs ∧ Q ps H') X.xe s
def mergeK (kvs more : List (Key × V)) : List (Key × V) := more.foldl (fun acc kv => putK acc kv.1 kv.2) kvs
theorem KV.merge : ∀ {more : List (Key × V)} {rs : List (Key × Value)} {kvs : List (Key × V)} {vs : List (Key × Value)}, KV more rs → KV kvs vs → KV (mergeK kvs more) (merged vs rs) := by
  intro more rs kvs vs r
  unfold KV at r
  induction r generalizing kvs vs with
  | nil => intro q; exact q
  | @cons p q ps qs h t ih =>
    intro r0
    have e : KV (putK kvs p.1 p.2) (stored vs q.1 q.2) := by
      have := r0.put p.1 h.2
      rw [← h.1]; exact this
    exact ih e
/-- {k: v, ..} with keys ints and texts; the new dict stands empty while the pairs are made -/
def tDisp (trs : List (TE × TE)) : TE := fun σ H Q => ∀ p, H p = none → tPairs trs σ (upd H p (.dK [])) fun ps H2 => H2 p = some (.dK []) ∧ ∃ kvs : List (Key × V), ps = kvs.map (fun kv => (kV kv.1, kv.2)) ∧ kvs.length ≤ 15 ∧ Q (.ref p) (upd H2 p (.dK (mergeK [] kvs)))
/-! ### methods -/
/-- a method call o.m(e) of a built-in, with one argument: what must be seen of the text -/
structure M1 (X : Cx) (o : Expr) (m : Str) (apos : Pos) (e : Expr) (cpos : Pos) : Prop where
  base : attributeBase o m X.env (eval o X.env) = eval o X.env
  few : ((backTo cpos (starEach [e] X.env)).all (fun x => !x.1) && (backToKw cpos (keywordEach [] X.env)).all (fun x => x.1.isSome)
    && decide (([e] : List Expr).length + ([] : List Keyword).length + (if ([] : List Keyword).isEmpty then 0 else 1) < 30)) = true
  line : (apos.endLine == cpos.line) = true
  trees : backTo cpos (starEach [e] X.env) = [(false, eval e X.env)]
structure M2 (X : Cx) (o : Expr) (m : Str) (apos : Pos) (e f : Expr) (cpos : Pos) : Prop where
  base : attributeBase o m X.env (eval o X.env) = eval o X.env
  few : ((backTo cpos (starEach [e, f] X.env)).all (fun x => !x.1) && (backToKw cpos (keywordEach [] X.env)).all (fun x => x.1.isSome)
    && decide (([e, f] : List Expr).length + ([] : List Keyword).length + (if ([] : List Keyword).isEmpty then 0 else 1) < 30)) = true
  line : (apos.endLine == cpos.line) = true
  trees : backTo cpos (starEach [e, f] X.env) = [(false, eval e X.env), (false, eval f X.env)]

/-- a is a dict, whatever its keys -/
def IsD (H : Hp) (a : Addr) : Prop := (∃ kvs, Rd H a (.dK kvs)) ∨ ∃ kvs, Rd H a (.dT kvs)
theorem isD_at {X : Cx} {pins : List (Addr × Obj)} {σ : St} {H : Hp} {s : Shared} {a : Addr} (I : Inv X pins σ H s) (d : IsD H a) :
    s.TypeIs (.ref a) "dict" ∧ (∀ b, Value.ref a = .ref b → ∃ ob, s.heap.get? b = some ob ∧ ob.dict = none) ∧ (a == sysModules) = false := by
  rcases d with ⟨kvs, e⟩ | ⟨kvs, e⟩
  · obtain ⟨_, hd, vs, _, dd⟩ := dk_rd I.hok e
    refine ⟨dd.typeIs, fun b q => ?_, hd⟩
    cases q
    obtain ⟨ob, _, _, h1, h2, _⟩ := dd
    exact ⟨ob, h1, h2.2.1⟩
  · obtain ⟨_, hd, xs, _, dd⟩ := dt_rd I.hok e
    refine ⟨dd.typeIs, fun b q => ?_, hd⟩
    cases q
    obtain ⟨ob, _, _, h1, h2, _⟩ := dd
    exact ⟨ob, h1, h2.2.1⟩

section
variable {X : Cx} {pins : List (Addr × Obj)} {σ : St} {H : Hp} {s : Shared} {a : Addr} {y d : V} {u r : Value} {o : Option V} {A : Around} {E : Value → Shared → Prop}
/-- d.get(y, x) -/
theorem d_get2 {Q : Value → Shared → Prop} (hu : A.units + 1 < cLine) (I : Inv X pins σ H s) (g : DGet H a y o) (ry : RelV y u) (rd : RelV d r) (h : ∀ w' s', Inv X pins σ H s' → RelV (o.getD d) w' → Q w' s') :
    wpAny (model X.prog X.w) A (call (.builtin "dict.get") [.ref a, u, r]) Q E s := by
  rcases g with ⟨kvs, k, e, ey, l⟩ | ⟨kvs, k, b, e, ey, eb, l⟩
  · subst ey
    obtain ⟨z, hd, vs, rel, dd⟩ := dk_rd I.hok e
    refine call_meetsIn PySem.F.slot_dict_get dd.typeIs PySem.F.entry_dict_get (PySem.F.args_dict_get_3 _ _ _) (meets_dict_get_default (mixKind X.prog X.w) a (kV_is ry) hd r) ⟨_, dd.mapOf, h _ _ (I.tok _) ?_⟩
    rw [l]
    exact (rel.val k).getD rd
  · subst ey
    cases (show u = Value.ref b from ry)
    obtain ⟨z, hd, xs, rel, dd⟩ := dt_rd I.hok e
    refine call_meetsIn PySem.F.slot_dict_get dd.typeIs PySem.F.entry_dict_get (PySem.F.args_dict_get_3 _ _ _) (meetsH_dict_get_default (tupleKind (mixKind X.prog X.w)) a b hd r) ⟨tupleKind_room_in1 hu, k, xs, key_of I.hok eb, dd, h _ _ (I.tok _) ?_⟩
    rw [l]
    exact (rel.val k).getD rd
end

def tDGet1 (td ty : TE) : TE := fun σ H Q => td σ H fun x H1 => ∃ a, x = .ref a ∧ IsD H1 a ∧ ty σ H1 fun y H2 => ∃ o, DGet H2 a y o ∧ Q (o.getD .non) H2
def tDGet2 (td ty tx : TE) : TE := fun σ H Q => td σ H fun x H1 => ∃ a, x = .ref a ∧ IsD H1 a ∧ ty σ H1 fun y H2 => tx σ H2 fun z H3 => ∃ o, DGet H3 a y o ∧ Q (o.getD z) H3
/-- d.pop(k): there; d.pop(k, x): there or not -/
def tDPop1 (td ty : TE) : TE := fun σ H Q => td σ H fun x H1 => ∃ a, x = .ref a ∧ IsD H1 a ∧ ty σ H1 fun y H2 => ∃ kvs k v, H2 a = some (.dK kvs) ∧ y = kV k ∧ valV kvs k = some v ∧ Q v (upd H2 a (.dK (dropK kvs k)))
def tDPop2 (td ty tx : TE) : TE := fun σ H Q => td σ H fun x H1 => ∃ a, x = .ref a ∧ IsD H1 a ∧ ty σ H1 fun y H2 => tx σ H2 fun z H3 => ∃ kvs k, H3 a = some (.dK kvs) ∧ y = kV k ∧
  (∀ v, valV kvs k = some v → Q v (upd H3 a (.dK (dropK kvs k)))) ∧ (valV kvs k = none → Q z H3)
section
variable {X : Cx} {o e f : Expr} {apos cpos : Pos} {td ty tx : TE}
theorem pe_dget2 (hu : X.A.units + 1 < cLine) (ho : PE X o td) (he : PE X e ty) (hf : PE X f tx) (m : M2 X o "get" apos e f cpos) : PE X (.Call (.Attribute o "get" apos) [e, f] [] cpos) (tDGet2 td ty tx) := by
  intro pins s σ H Q I h
  refine wpAny_Call_method m.base m.few m.line PySem.F.plainAttrs_dict PySem.F.slot_dict_get PySem.F.type_dict_get (thn (ho pins s σ H _ I h) fun u s1 ⟨x, H1, I1, rx, a, ex, d, q1⟩ => ?_)
  subst ex
  obtain rfl : u = Value.ref a := rx
  obtain ⟨t1, t2, _⟩ := isD_at I1 d
  refine ⟨t1, t2, ?_⟩
  rw [m.trees]
  refine Calls.callWith_builtin rfl (Calls.evalArgs_plain (Calls.spliced_cons (thn (he pins s1 σ H1 _ I1 q1) fun iv s2 ⟨y, H2, I2, ry, q2⟩ =>
    Calls.spliced_cons (thn (hf pins s2 σ H2 _ I2 q2) fun fv s3 ⟨z, H3, I3, rz, ov, g, q3⟩ => Calls.spliced_nil ?_))))
  exact d_get2 hu I3 g ry rz fun w' s4 I4 rw' => ⟨_, H3, I4, rw', q3⟩
end

/-! ### dict(d): a copy -/
section
variable {X : Cx} {pins : List (Addr × Obj)} {σ : St} {H : Hp} {s : Shared} {a : Addr} {kvs : List (Key × V)} {A : Around} {E : Value → Shared → Prop}
end


section
variable {X : Cx} {pins : List (Addr × Obj)} {σ : St} {H : Hp} {s : Shared} {a : Addr} {y : V} {u : Value} {A : Around} {E : Value → Shared → Prop}
end
end L2

namespace Att
open PySem PySem.W PySem.Calls PyProof.Rows

/-! ### the script -/
theorem ints_of_wellAll {P : Params} {h : Heap} : ∀ (ns : List Int) (vs : List Value), WellAll P h vs (ns.map WData.int) → IntsAre vs ns := by
  intro ns
  induction ns with
  | nil =>
    intro vs w
    rw [List.map_nil] at w
    cases w
    exact .nil
  | cons n ns ih =>
    intro vs w
    rw [List.map_cons] at w
    cases w with
    | cons a b =>
      cases a
      exact .cons _ _ (ih _ b)

theorem script_of {l : OpenLaw} {n : Nat} (hn : l.most = some n) {P : Params} {h : Heap} {args : List WData} {vals : List Value}
    (hpre : l.row.toRowW.claim.pre args = true) (hwl : WellAll P h vals args) :
    ∃ a vs ns, vals = [Value.ref a] ∧ args = [WData.list (ns.map WData.int)] ∧ h.get? a = some { cls := .type "list", data := .seq vs.toArray } ∧ IntsAre vs ns ∧ ns.length ≤ n := by
  have hsh : WShape.hasAll [] args [.list .int] = true := (pre_splitW hpre).1
  have hc : l.pre.holds [] { args := args } = true := (pre_splitW hpre).2
  obtain ⟨d, r, rfl, h1, h2⟩ := hasAllW_cons hsh
  obtain rfl := hasAllW_nil h2
  obtain ⟨xs, rfl, h3⟩ := hasW_list h1
  obtain ⟨ns, rfl⟩ := items_int h3
  have hlen : ns.length ≤ n := by
    unfold OpenLaw.pre at hc
    have h4 : (WTm.not (.lt (.lit (.int (n : Int))) (.len (.arg 0)))).holds [] { args := [.list (ns.map .int)] } = true := by
      have h4 := (holds_andW hc).1
      rw [hn] at h4
      exact h4
    have h5 := condW_of h4 (w_not (w_lt w_lit (w_len_list (w_arg rfl))))
    rw [List.length_map] at h5
    refine Nat.le_of_not_lt fun q => ?_
    have q' : (n : Int) < ((ns.length : Nat) : Int) := by omega
    first
      | (rw [decide_eq_true q'] at h5; exact absurd h5 (by decide))
      | (simp at h5; omega)
  cases hwl with
  | cons w1 w2 =>
    cases w2
    cases w1 with
    | list ho hall => exact ⟨_, _, ns, rfl, rfl, ho, ints_of_wellAll ns _ hall, hlen⟩

theorem post_true (l : OpenLaw) (args : List WData) : l.row.toRowW.claim.post args (.bool true) args = true :=
  postW_of (r := l.row.toRowW) (X := (true == true))
    (show WShape.has [] (.bool true) .bool = true by first | rfl | decide | simp [WShape.has, WShape.arms, WShape.armsAll])
    (show (WTm.eq .res (.lit (.bool true))).value [] { args := args, res := some (.bool true), after := args } = some (.bool (true == true)) from w_eq_bool (w_res rfl) w_lit) rfl

/-! ### the attachment: holds_open's last premise (the goal 'hc' behind k_head) from a wpAny of the law's body -/
/-- the same from a codeAny of the CALL (for a layer whose function contracts speak of calls) -/
theorem attach_call {l : OpenLaw} {n : Nat} {q : Program} {loose : List Str} {XP : (Str → Option Value) → Heap → Prop} {YP : World → Heap → Prop} {d : DefRec}
    (hn : l.most = some n) (hdf : d.params.defaults = [])
    (call : ∀ (w : World) (s₀ s₁ : Shared) (mg mb : Str → Option Value) (fa : Addr) (o : Obj) (pm cd doc : Value) (a : Addr) (vs : List Value) (ns : List Int),
      Ground q loose [] XP w s₀ mg mb s₁.heap → YP w s₁.heap →
      s₁.heap.get? fa = some o → o.data = .func (docDef d.name d.params d.body d.scope pm cd doc) → s₁.heap.CodeRec cd d.name → mg d.name = some (.ref fa) →
      s₁.heap.get? a = some { cls := .type "list", data := .seq vs.toArray } → IntsAre vs ns → ns.length ≤ n → s₁.gens = #[] →
      codeAny (model l.prog w) callerA (.call (.ref fa) ⟨[.ref a], []⟩) (fun r s' => r = .ok (.ret (.bool true)) ∧ OldK s₁.heap s'.heap ∧ s'.os = s₁.os ∧ AllBare s'.gens) s₁) :
    WalkO q loose XP YP l.row.toRowW d [] (fun f vs => PySem.call f vs) := by
  intro w s₀ s₁ mg mb G Y fa o pm cd doc dV kV ho hd hcd hD hmg hg args vals as hpre hlay hrd hwl hlo
  obtain rfl : dV = .none := Dflts.none hD hdf
  obtain rfl : kV = .none := Dflts.noKw hD
  obtain ⟨a, vs, ns, rfl, rfl, hobj, hints, hlen⟩ := script_of hn hpre hwl
  refine enter_call (codeAny_mono (call w s₀ s₁ mg mb fa o pm cd doc a vs ns G Y ho (fd_plain hd) hcd hmg hobj hints hlen hg) fun r s' hq => ?_)
  obtain ⟨rfl, h2, h3, h4⟩ := hq
  exact ⟨.inl ⟨.bool true, .bool true, [], rfl, fun _ => rfl, .bool true, post_true l _, fun _ => ⟨List.Pairwise.nil, fun _ hm => (nomatch hm)⟩⟩, h2, h3, h4⟩

/-! ### rules over ANY heap (no ledger) from facts about the written part K: the library's own take a ledger (News) for what they write -/
section
variable {prog : Program} {w : World} {A : Around} {E : Value → Shared → Prop} {s : Shared} {K : Frag}

/-! the whole heap as the ledger: makes every rule that writes through a ledger a rule over any heap -/
def noObjs (h : Heap) : Heap := { h with objs := #[] }
def ledger (h : Heap) (L d : Addr) : List (Addr × Obj) := (List.range h.objs.size).filterMap fun a => if a = L ∨ a = d then none else (h.get? a).map fun o => (a, o)
end
end Att

namespace L2
open PySem PySem.Spec PyProof.Rows

theorem vals_ints : ∀ {vs : List Value} {ns : List Int}, IntsAre vs ns → Vals (ns.map V.int) vs
  | _, _, .nil => .nil
  | _, _, .cons n t h => .cons ⟨t, rfl⟩ (vals_ints h)

/-- nothing is tracked but the script, known to the object (or it is an object of the module) -/
def Only (H : Hp) : Prop := ∀ b, H b = none ∨ ∃ o xs, H b = some (.frz o (.lst xs))

/-- THE HEAD: the law's promise, at the heap behind the top. F, the promise of the law's def, may use that base is part of the heap (so K.In base, base.Ns mainGlobals mg stand in Mod) -/
theorem law_call {P : Program} {w : World} {K : PySem.W.Frag} {mg mb : Str → Option Value} {CX : CXT} {k : Nat} {fa a : Addr} {fd : FuncData} {x : Str} {sp : Sp} {s₁ : Shared} {vs : List Value} {ns : List Int}
    (KX : K.In s₁.heap) (hns : s₁.heap.Ns mainGlobals mg) (hb : s₁.heap.Ns builtinsNs mb) (hbb : ∀ x : Str, x ≠ "__name__" → mb x = bootBuiltins x) (hlim : s₁.heap.NoLimit) (hg : s₁.gens = #[])
    (ha : s₁.heap.get? a = some { cls := .type "list", data := .seq vs.toArray }) (hi : IntsAre vs ns) (hl : ns.length ≤ sizeLine) (hr : Room k callerA)
    (F : ∀ base : Heap, K.In base → base.Ns mainGlobals mg → FnOk P w K mg base CX k fa fd [x] sp) (hbind : ∀ (s : Shared) (u : Value), BindsTo s fd ⟨[u], []⟩ [(x, u)])
    (hsp : ∀ H : Hp, Only H → SqL K H a (ns.map V.int) → sp [.ref a] H (fun v _ => v = .bl true) fun _ _ _ => False)
    (hCX : ∀ H e s', CX [] H s₁ (fun _ _ _ => False) e s' → False) :
    codeAny (model P w) callerA (.call (.ref fa) ⟨[.ref a], []⟩) (fun r s' => r = .ok (.ret (.bool true)) ∧ OldK s₁.heap s'.heap ∧ s'.os = s₁.os ∧ AllBare s'.gens) s₁ := by
  have rv := vals_ints hi
  have lenV := hi.length
  -- from an abstract heap in which nothing but the script may be tracked
  have core : ∀ H : Hp, Only H → SqL K H a (ns.map V.int) → HOk P w H s₁.heap → (∀ b, H b ≠ none → b = a) → (H a ≠ none → K.lookup a = none) →
      codeAny (model P w) callerA (.call (.ref fa) ⟨[.ref a], []⟩) (fun r s' => r = .ok (.ret (.bool true)) ∧ OldK s₁.heap s'.heap ∧ s'.os = s₁.os ∧ AllBare s'.gens) s₁ := by
    intro H hO hS hok hA hK
    have base_of : ∀ {b : Addr} {o : Obj}, s₁.heap.get? b = some o → H b = none → (hidT s₁.heap H).get? b = some o := fun e n => hidT_get e n
    have noA : ∀ {b : Addr} {o : Obj} {es : Array DictEntry} {ep : Nat}, s₁.heap.get? b = some o → o.data = .dict es ep → H b = none := fun {b o es ep} e d => by
      cases q : H b with
      | none => rfl
      | some u =>
        have e' : b = a := hA b (by rw [q]; simp)
        subst e'
        rw [ha] at e; cases e
        have d' : Data.seq vs.toArray _ = Data.dict es ep := d
        cases d'
    have nsK : ∀ {b : Addr} {m : Str → Option Value}, s₁.heap.Ns b m → (hidT s₁.heap H).Ns b m := fun {b m} ⟨o, es, ep, e, d, r⟩ => ⟨o, es, ep, base_of e (noA e d), d, r⟩
    have hKb : K.In (hidT s₁.heap H) := fun b o e => base_of (KX b o e) (by
      cases q : H b with
      | none => rfl
      | some u =>
        have e' : b = a := hA b (by rw [q]; simp)
        subst e'
        rw [hK (by rw [q]; simp)] at e; cases e)
    have hM : Mod K mg (hidT s₁.heap H) := ⟨hKb, nsK hns, ⟨mb, nsK hb, hbb⟩, let ⟨mc, h1, h2⟩ := hlim; ⟨mc, nsK h1, h2⟩⟩
    have e0 : Env0 P w K mg (hidT s₁.heap H) callerA [] s₁ H := ⟨rfl, hM, fun b o e => of_hidT e, Nat.le_of_eq (hidT_size _ _), trivial, fun b hb => absurd (show b ∈ ([] : List Addr) from hb) (by simp), hok, .of_eq hg⟩
    refine codeAny_mono ((F _ hKb (nsK hns)).run callerA [] s₁ H ⟨[.ref a], []⟩ [.ref a] [.ref a] _ _ hr e0 (hbind s₁ (.ref a)) (.cons rfl .nil) (hsp H hO hS)) fun r s' h => ?_
    cases r with
    | error e => exact (hCX H e s' h).elim
    | ok fl =>
      cases fl with
      | next => exact False.elim h
      | brk => exact False.elim h
      | cont => exact False.elim h
      | ret u =>
        obtain ⟨v, H', os, bare, un, hok', r', q⟩ := h
        have q' : v = .bl true := q
        subst q'
        obtain rfl : u = Value.bool true := r'
        refine ⟨rfl, OldK.of_keep fun b o e => ?_, os, bare⟩
        cases q : H b with
        | none => exact un.keep b o e q (by intro z; exact absurd (show b ∈ ([] : List Addr) from z) (by simp)) (by simp)
        | some u =>
          rcases hO b with z | ⟨ob, xs, z⟩
          · rw [q] at z; cases z
          · have z2 := un.frzs b ob _ z
            obtain ⟨e1, _⟩ := hok b _ z
            obtain ⟨e2, _⟩ := hok' b _ z2
            rw [e] at e1; cases e1
            exact e2
  cases hk : K.lookup a with
  | some o =>
    -- the script is one of the module's own objects
    have e := KX a o hk
    rw [ha] at e
    cases e
    refine core (fun _ => none) (fun _ => .inl rfl) (.inr ⟨_, vs.toArray, _, hk, rfl, rfl, rfl, by rw [List.size_toArray, lenV]; exact hl, by simpa using rv⟩) (fun b u z => by have z' : (none : Option HO) = some u := z; cases z') (fun b z => absurd rfl z) fun z => absurd rfl z
  | none =>
    refine core (fun b => if b = a then some (.frz { cls := .type "list", data := .seq vs.toArray } (.lst (ns.map V.int))) else none) (fun b => ?_) (.inl (.inr ⟨{ cls := .type "list", data := .seq vs.toArray }, if_pos rfl⟩)) (fun b u z => ?_) (fun b z => ?_) fun _ => hk
    · by_cases hb : b = a
      · exact .inr ⟨_, _, if_pos hb⟩
      · exact .inl (if_neg hb)
    · by_cases hb : b = a
      · have z' := (if_pos hb).symm.trans z
        cases z'
        subst hb
        exact ⟨ha, by rw [List.length_map]; exact hl, vs, _, rv, ha⟩
      · have z' := (if_neg hb).symm.trans z
        cases z'
    · by_cases hb : b = a
      · exact hb
      · exact absurd (if_neg hb) z
end L2

namespace L2
open PySem PySem.Spec PyProof.Rows

abbrev KOf {K : PySem.W.Frag} {h : Heap} (_ : K.In h) : PySem.W.Frag := K

/-- the goal that k_head leaves (case hc), from the law's promise. F gives the function object fd (K's own) once, then the promise over every base -/
theorem walk_of {l : PySem.W.OpenLaw} {n k : Nat} {q : Program} {loose : List Str} {XP : (Str → Option Value) → Heap → Prop} {YP : World → Heap → Prop} {d : DefRec} {K : Params → PySem.W.Frag} {CX : World → CXT} {sp : World → Sp} {x : Str}
    (hn : l.most = some n) (hn2 : n ≤ sizeLine) (hdf : d.params.defaults = []) (hr : Room k callerA)
    (hY : ∀ (w : World) (h : Heap), YP w h → (K w.params).In h)
    (F : ∀ (w : World) (mg : Str → Option Value) (fa : Addr) (h : Heap), (K w.params).In h → h.Ns mainGlobals mg → mg d.name = some (.ref fa) →
      ∃ fd : FuncData, (∀ (s : Shared) (u : Value), BindsTo s fd ⟨[u], []⟩ [(x, u)]) ∧
        ∀ base : Heap, (K w.params).In base → base.Ns mainGlobals mg → FnOk l.prog w (K w.params) mg base (CX w) k fa fd [x] (sp w))
    (hsp : ∀ (w : World) (H : Hp) (a : Addr) (ns : List Int), ns.length ≤ n → Only H → SqL (K w.params) H a (ns.map V.int) → sp w [.ref a] H (fun v _ => v = .bl true) fun _ _ _ => False)
    (hCX : ∀ (w : World) (H : Hp) (s : Shared) (e : Value) (s' : Shared), CX w [] H s (fun _ _ _ => False) e s' → False) :
    PySem.W.WalkO q loose XP YP l.row.toRowW d [] (fun f vs => PySem.call f vs) := by
  refine Att.attach_call hn hdf fun w s₀ s₁ mg mb fa o pm cd doc a vs ns G Y ho hd hcd hmg hobj hints hlen hg => ?_
  have KX := hY w _ Y
  obtain ⟨fd, hb, hF⟩ := F w mg fa _ KX G.T.g hmg
  exact law_call KX G.T.g G.T.b G.T.builtins G.T.nolimit hg hobj hints (Nat.le_trans hlen hn2) hr hF hb (fun H hO hS => hsp w H a ns hlen hO hS) fun H e s' => hCX w H s₁ e s'
end L2

/- THE LAST THEOREM (shape; LID, My.* are yours):
   My.Adr: a structure of the addresses that your layer names (classes, functions); My.Txt K t: a structure (Prop) of the equations over K;
   My.txt_mk : {K} {implicit addresses ..} (e1 : nsIn K mainGlobals "law" = some (some (.ref f))) (e2 : K.lookup f = some ⟨oc, od, .func (fnOf "law" "law" params body scope dV kV doc pm an cdv ct), sl⟩) (e3 : codeIn K cdv "law" = true) .. : ∃ t, My.Txt K t

set_option maxRecDepth 100000 in
set_option maxHeartbeats 0 in
theorem PySem.Challenge.cw_LID_holds : PySem.Challenge.rw_LID.Holds := by
  w_on; o_law; k_head; (case hw => w_witness2)
  k_fill
  refine L2.walk_of (l := PySem.Challenge.rw_LID) (n := 63) (k := 40) (x := "script") (CX := fun w => ..) (sp := fun _ => My.sp_law) rfl (by decide) rfl ⟨rfl, by decide, by decide⟩ (fun w h Y => PySem.W.kIn_of Y) ?F ?S ?C
  case F =>
    intro w mg fa h KX G hmg
    have T : ∃ t, My.Txt (L2.KOf KX) t := by
      dsimp only [L2.KOf]                          -- K must stand as «<heap const> w.params» for k_is
      refine' My.txt_mk ?e1 ?e2 ?e3 ..
      (case e1 => PySem.W.k_is)                    -- in the order: a name -> its address -> its object -> its parts
      (case e2 => PySem.W.k_is)
      ..
    obtain ⟨t, T⟩ := T
    have e0 := hmg.symm.trans (PySem.W.mg_of KX G T.law)
    cases e0                                       -- fa is the law's own address
    exact ⟨_, fun s u => .of_eq rfl, fun base kb nb => My.law_fn T kb nb⟩     -- if «.of_eq rfl» comes too early: refine' ⟨_, ?b, fun base kb nb => My.law_fn T kb nb⟩; exact fun s u => .of_eq rfl
  case S => exact fun w H a ns hl hO hS => ..
  case C => exact ..
(the tactic k_is has no namespace: write k_is) -/

/-! SHORT WORDS over the layer: a def of the text, its body, what a loop and a test want. -/
namespace L2
open PySem PySem.Spec PyProof.Rows

/-! ### the text by places -/
/-- the j-th statement of a class's body -/
def inClass (s : Stmt) (j : Nat) : Stmt := match s with
  | .ClassDef _ _ _ body _ _ _ _ _ _ _ => body.getD j (.Pass ⟨0, 0, 0, 0⟩)
  | _ => .Pass ⟨0, 0, 0, 0⟩
def defArgs (s : Stmt) : Arguments := match s with
  | .FunctionDef _ a _ _ _ _ _ _ _ _ => a
  | _ => { posonlyargs := [], args := [], vararg := none, kwonlyargs := [], kw_defaults := [], kwarg := none, defaults := [] }
def defBody (s : Stmt) : List Stmt := match s with
  | .FunctionDef _ _ b _ _ _ _ _ _ _ => b
  | _ => []
def defScope (s : Stmt) : Scope := match s with
  | .FunctionDef _ _ _ _ _ _ sc _ _ _ => sc
  | _ => { kind := .function, names := [], isGenerator := false, isCoroutine := false }

/-! ### no exception leaves a def -/
abbrev CX0 : CXT := fun _ _ _ _ _ _ => False
abbrev E0 : XK := fun _ _ _ => False
theorem pass0 {X : Cx} : Passes CX0 X E0 := fun _ _ _ _ _ _ _ h => h.elim

/-! ### a def (or method) of the text as it stands behind the top -/
structure Fun (K : PySem.W.Frag) (x qual : Str) (st : Stmt) (f : Addr) (fd : FuncData) : Prop where
  ex : ∃ (oc : Value) (od : Option Addr) (kV doc pm : Value) (an : Option Addr) (cdv ct : Value) (osl : Array (Option Value)),
    fd = PySem.W.fnOf x qual (defArgs st) (defBody st) (defScope st) .none kV doc pm an cdv ct ∧ K.lookup f = some ⟨oc, od, .func fd, osl⟩ ∧ PySem.W.codeIn K cdv qual = true
  kp : PySem.W.keepIn K (.ref f) = true
section
variable {P : Program} {w : World} {K : PySem.W.Frag} {mg : Str → Option Value} {base : Heap}
/-- THE RULE for a def: its body as a term of rules, and the reading of that term -/
theorem Fun.ok {x qual : Str} {st : Stmt} {f : Addr} {fd : FuncData} {N ps : List Str} {k : Nat} {sp : Sp} (F : Fun K x qual st f fd) (S : FnScope N ps (defScope st)) (len : ∀ vs H Q E, sp vs H Q E → vs.length = ps.length)
    (hbody : ∀ (cdv : Value) (A : Around) (outer : List Env) (s : Shared) (H : Hp) (vs : List V) (Q : VK) (E : XK), Room k (A.deeper (envOfC qual (defScope st) s.heap.objs.size f cdv)) → sp vs H Q E →
      ∃ t, PSs (cxOf CX0 P w K mg base N qual (defScope st) f cdv A outer s H E).nox (defBody st) t ∧ t { nx := fun _ H' => Q .non H', rt := Q } (start N vs) H) : FnOk P w K mg base CX0 (k + 1) f fd ps sp := by
  obtain ⟨oc, od, kV, doc, pm, an, cdv, ct, osl, rfl, lk, hcd⟩ := F.ex
  refine fn_of lk hcd S len fun A outer s H vs Q E hr hsp => ?_
  obtain ⟨t, h, q⟩ := hbody cdv A outer s H vs Q E hr hsp
  exact ⟨t, h.nox, q⟩
/-- how its arguments bind (no defaults): h is «fun _ _ _ _ _ _ us hl => match us, hl with | [_, _], _ => rfl», one _ a parameter -/
theorem Fun.binds {x qual : Str} {st : Stmt} {f : Addr} {fd : FuncData} {ps : List Str} (F : Fun K x qual st f fd)
    (h : ∀ (kV doc pm : Value) (an : Option Addr) (cdv ct : Value) (us : List Value), us.length = ps.length → bindArgs (PySem.W.fnOf x qual (defArgs st) (defBody st) (defScope st) .none kV doc pm an cdv ct) ⟨us, []⟩ = pure (ps.zip us)) : Binds K fd ps [] := by
  obtain ⟨oc, od, kV, doc, pm, an, cdv, ct, osl, rfl, lk, hcd⟩ := F.ex
  exact .all (h kV doc pm an cdv ct)
theorem fun_mk {x qual : Str} {st : Stmt} {f : Addr} {oc : Value} {od an : Option Addr} {osl : Array (Option Value)} {kV doc pm cdv ct : Value} (l : K.lookup f = some ⟨oc, od, .func (PySem.W.fnOf x qual (defArgs st) (defBody st) (defScope st) .none kV doc pm an cdv ct), osl⟩)
    (c : PySem.W.codeIn K cdv qual = true) (k : PySem.W.keepIn K (.ref f) = true) : Fun K x qual st f (PySem.W.fnOf x qual (defArgs st) (defBody st) (defScope st) .none kV doc pm an cdv ct) := ⟨⟨oc, od, kV, doc, pm, an, cdv, ct, osl, rfl, l, c⟩, k⟩
end
theorem hu_of {A : Around} {k : Nat} (hr : Room k A) : A.units + 1 < cLine := Nat.lt_of_le_of_lt (Nat.add_le_add_left (by decide : 1 ≤ 64) _) hr.units
theorem small1000 {n : Nat} (h : n ≤ 1000) : n < sizeLine := Nat.lt_of_le_of_lt h (by decide)

/-! ### expressions in short: the name that stands in the i-th slot -/
section
variable {X : Cx}
theorem pv (i : Nat) {x : Str} {pos : Pos} (hN : X.N[i]? = some x := by rfl) (hv : Vis X.env.scope x := by first | exact Or.inl rfl | exact Or.inr (Or.inl rfl) | exact Or.inr (Or.inr rfl)) (hd : (x == ("__debug__" : Str)) = false := by decide)
    (hcd : (x == ("__classdict__" : Str)) = false := by decide) : PE X (.Name x pos) (tVar i) := pe_var hN hv hd hcd
end

/-! ### tests -/
theorem iteF {A B : Prop} (h : B) : if false = true then A else B := by
  rw [if_neg Bool.false_ne_true]
  exact h
theorem iteT {A B : Prop} (h : A) : if true = true then A else B := by
  rw [if_pos rfl]
  exact h
theorem ite2 {c A B : Prop} [Decidable c] (h1 : c → A) (h2 : ¬ c → B) : if c then A else B := by
  by_cases h : c
  · rw [if_pos h]
    exact h1 h
  · rw [if_neg h]
    exact h2 h
/-! ### heaps -/
/-- all that was tracked is as it was -/
def Same (H H' : Hp) : Prop := ∀ b o, H b = some o → H' b = some o
theorem Same.refl (H : Hp) : Same H H := fun _ _ h => h
theorem Same.trans {H H1 H2 : Hp} (a : Same H H1) (b : Same H1 H2) : Same H H2 := fun c o h => b c o (a c o h)
theorem Same.free {H H' : Hp} (e : Same H H') {l : Addr} (h : H' l = Option.none) : H l = Option.none := by
  cases q : H l with
  | none => rfl
  | some o =>
    rw [e l o q] at h
    cases h
theorem Same.seq {K : PySem.W.Frag} {H H' : Hp} {a : Addr} {xs : List V} (e : Same H H') (h : SqL K H a xs) : SqL K H' a xs := by
  rcases h with (h | ⟨o, h⟩) | h
  · exact .inl (.inl (e _ _ h))
  · exact .inl (.inr ⟨o, e _ _ h⟩)
  · exact .inr h

end L2

namespace L2
open PySem PySem.Spec PyProof.Rows
section
variable {X : Cx}
end
/-! ### a dict's pairs: keys that differ -/
section
variable {κ : Type} [DecidableEq κ]
end
end L2


set_option Elab.async false
set_option linter.all false
set_option maxRecDepth 100000
/-! a comprehension's block over the hand layer -/
namespace L2
open PySem PySem.Spec PyProof.Rows

/-- the block's own context -/
def lcx (X : Cx) (N' : List Str) (scope : Scope) (cl : List (Str × Addr)) (C : Addr) (s₀ : Shared) (H₀ : Hp) (ex : List Addr) : Cx :=
  { prog := X.prog, w := X.w, K := X.K, mg := X.mg, base := X.base, A := X.A, N := N', s₀ := s₀, H₀ := H₀, env := compEnvC scope cl C X.env, outer := X.stack, stack := X.stack, ex := ex, fn := fun _ => false, calm := X.calm, pn := [], xe := fun _ _ => False }

/-- which slot of the block is which slot outside -/
abbrev Cap := List (Option Nat)
def inn (js : Cap) (σ : St) : St := js.map fun o => o.bind fun j => (σ[j]?).join

/-! ### the captured cells -/
def freeOf (scope : Scope) (x : Str) : Bool := scope.names.any fun p => decide (p.1 = x) && (p.2 == .free)

theorem clos_go {env : Env} (has : ∀ x, (env.kindOf x = some .cell ∨ env.kindOf x = some .free) → ∃ c, env.cells.lookup x = some c) :
    ∀ (names : List (Str × NameKind)) (acc : List (Str × Addr)), (∀ p ∈ names, p.2 = .free → env.kindOf p.1 = some .cell ∨ env.kindOf p.1 = some .free) → (∀ x c, acc.lookup x = some c → env.cells.lookup x = some c) →
      ∃ cl, (forIn names acc (fun (p : Str × NameKind) (cs : List (Str × Addr)) => (do
          if p.2 == NameKind.free then
            let c ← cellOf env p.1
            pure (ForInStep.yield ((p.1, c) :: cs))
          else pure (ForInStep.yield cs) : Sem (ForInStep (List (Str × Addr)))))) = pure cl ∧ (∀ x c, cl.lookup x = some c → env.cells.lookup x = some c) ∧
        (∀ x, (acc.lookup x).isSome = true → (cl.lookup x).isSome = true) ∧ ∀ p ∈ names, p.2 = .free → (cl.lookup p.1).isSome = true := by
  intro names
  induction names with
  | nil => intro acc _ ha; exact ⟨acc, rfl, ha, fun _ h => h, fun _ h => nomatch h⟩
  | cons p r ih =>
    intro acc hn ha
    obtain ⟨n, k⟩ := p
    rw [List.forIn_cons]
    by_cases hk : k = .free
    · subst hk
      obtain ⟨c, hc⟩ := has n (hn (n, .free) List.mem_cons_self rfl)
      have e : cellOf env n = (pure c : Sem Addr) := by
        unfold cellOf
        rw [hc]
      obtain ⟨cl, h1, h2, h3, h4⟩ := ih ((n, c) :: acc) (fun q hq => hn q (List.mem_cons_of_mem _ hq)) (fun x c' hx => by
        rw [List.lookup_cons] at hx
        cases hb : x == n with
        | true =>
          rw [hb] at hx
          cases hx
          rw [show x = n from eq_of_beq hb]
          exact hc
        | false =>
          rw [hb] at hx
          exact ha x c' hx)
      refine ⟨cl, ?_, h2, fun x hx => h3 x ?_, fun q hq hf => ?_⟩
      · simp only [beq_self_eq_true, if_true, e]
        exact h1
      · rw [List.lookup_cons]
        cases hb : x == n with
        | true => rfl
        | false => exact hx
      · rcases List.mem_cons.mp hq with rfl | hq
        · exact h3 _ (by simp [List.lookup_cons])
        · exact h4 q hq hf
    · have hb : (k == NameKind.free) = false := by simpa using hk
      obtain ⟨cl, h1, h2, h3, h4⟩ := ih acc (fun q hq => hn q (List.mem_cons_of_mem _ hq)) ha
      refine ⟨cl, ?_, h2, h3, fun q hq hf => ?_⟩
      · simp only [hb, Bool.false_eq_true, if_false]
        exact h1
      · rcases List.mem_cons.mp hq with rfl | hq
        · exact absurd hf hk
        · exact h4 q hq hf
theorem clos_of {env : Env} {scope : Scope} (has : ∀ x, (env.kindOf x = some .cell ∨ env.kindOf x = some .free) → ∃ c, env.cells.lookup x = some c)
    (hn : ∀ p ∈ scope.names, p.2 = .free → env.kindOf p.1 = some .cell ∨ env.kindOf p.1 = some .free) :
    ∃ cl, closureFor scope env = pure cl ∧ (∀ x c, cl.lookup x = some c → env.cells.lookup x = some c) ∧ ∀ p ∈ scope.names, p.2 = .free → (cl.lookup p.1).isSome = true := by
  obtain ⟨cl, h1, h2, _, h4⟩ := clos_go has scope.names [] hn (fun _ _ h => nomatch h)
  refine ⟨cl, ?_, h2, h4⟩
  unfold closureFor
  show (do let cs ← forIn scope.names [] _; pure cs) = _
  refine Eq.trans ?_ h1
  simp only [bind_pure]
end L2

set_option Elab.async false
set_option linter.all false
set_option maxRecDepth 100000
namespace L2
open PySem PySem.Spec PyProof.Rows

section
variable {prog : Program} {w : World} {A : Around} {E : Value → Shared → Prop} {R : Result → Shared → Prop} {s : Shared}
/-- a comprehension's loop, whatever its target and iterator -/
theorem compLoop_go {elt target iter : Expr} {ifs : List Expr} {scope : Scope} {pos : Pos} {it acc : Value} {env : Env} (I : Nat → Shared → Prop)
    (turn : ∀ n s, I n s → wpAny (model prog w) A (pyNext it) (fun r s₁ => match r with
      | none => R (.ok .next) s₁
      | some v => wpAny (model prog w) A (letOwnedTupleGo target it v) (fun _ s₁' => wpAny (model prog w) A (assign target env v) (fun _ s₂ =>
          wpAny (model prog w) A (forIn ifs true fun c r => if r = true then do let ok ← isTrue c env (eval c env); pure (ForInStep.yield ok) else pure (ForInStep.yield r)) (fun ok s₃ =>
            if ok = true then wpAny (model prog w) A (eval elt env) (fun x s₄ =>
              wpAny (model prog w) A (call (.builtin "list.append") [acc, x]) (fun _ s₅ => ∃ m, m < n ∧ I m s₅) (fun _ _ => False) s₄) (fun _ _ => False) s₃
            else ∃ m, m < n ∧ I m s₃) (fun _ _ => False) s₂) (fun _ _ => False) s₁') (fun _ _ => False) s₁) (fun _ _ => False) s)
    (n : Nat) (h : I n s) :
    codeAny (model prog w) A (.compLoop (.ListComp elt [⟨target, iter, ifs, 0⟩] scope pos) 0 it acc env) R s := by
  refine codeAny_loop rfl I (fun n s hI => ?_) n h
  show wpAny _ A ((compTurn (.ListComp elt [⟨target, iter, ifs, 0⟩] scope pos) 0 it acc env).onRaise (fun x => do noteFrame x env; theTreesLotGoes x)) _ _ s
  refine wpAny_noted ?_
  rw [compTurn_list]
  refine wpAny_bind (wpAny_standAt (wpAny_bind (wpAny_mono (turn n s hI) (fun r s₁ h₁ => ?_) fun _ _ h' => h'.elim)))
  cases r with
  | none => exact wpAny_pure h₁
  | some v =>
    refine wpAny_bind (wpAny_mono h₁ (fun _ s₁' h₁' => ?_) fun _ _ h' => h'.elim)
    refine wpAny_bind (wpAny_mono h₁' (fun _ s₂ h₂ => wpAny_bind (wpAny_mono h₂ (fun ok s₃ h₃ => ?_) fun _ _ h' => h'.elim)) fun _ _ h' => h'.elim)
    cases ok with
    | false => exact wpAny_pure ⟨rfl, h₃⟩
    | true =>
      exact wpAny_bind (wpAny_bind (wpAny_mono h₃ (fun x s₄ h₄ => wpAny_bind (wpAny_mono h₄ (fun _ s₅ h₅ => wpAny_pure (wpAny_pure ⟨rfl, h₅⟩)) fun _ _ h' => h'.elim)) fun _ _ h' => h'.elim))
end

/-! ### the tests of a comprehension -/
def PIfs (X : Cx) (ifs : List Expr) (t : TT) : Prop :=
  ∀ (pins : List (Addr × Obj)) (s : Shared) (σ : St) (H : Hp) (Q : Bool → Hp → Prop), Inv X pins σ H s → t σ H Q →
    wpAny (model X.prog X.w) X.A (forIn ifs true fun c r => if r = true then do let ok ← isTrue c X.env (eval c X.env); pure (ForInStep.yield ok) else pure (ForInStep.yield r)) (TP X pins σ Q) X.xe s
def tYes : TT := fun _ H Q => Q true H
theorem pifs_nil {X : Cx} : PIfs X [] tYes := fun _ _ _ H _ I h => wpAny_tests_nil ⟨H, I, h⟩
theorem pifs_one {X : Cx} {c : Expr} {t : TT} (h : PT X c t) : PIfs X [c] t := fun pins s σ H Q I hw => wpAny_tests_one (h pins s σ H Q I hw)

/-- what is read of a comprehension: W by the turn, a measure, the block's slots, the list so far -/
def LcGoal (J : It) (p : Addr) (js : Cap) (g : TG) (tc : TT) (te : TE) (σ : St) (H : Hp) (Q : VK) : Prop :=
  ∃ W : Nat → Nat → St → List V → Hp → Prop, (∃ m, W 0 m (inn js σ) [] (upd H p (.lst []))) ∧ ∀ i m σ' ys H, W i m σ' ys H → H p = some (.lst ys) ∧
    ((J.stop i H ∧ Q (.ref p) H) ∨ (J.go i H ∧ ys.length < sizeLine ∧ ∀ x H', J.yld i H x H' → g x σ' H' fun σ2 H2 => tc σ2 H2 fun b H3 =>
      if b = true then te σ2 H3 fun y H4 => H4 p = some (.lst ys) ∧ ∃ m', m' < m ∧ W (i + 1) m' σ2 (ys ++ [y]) (upd H4 p (.lst (ys ++ [y])))
      else ∃ m', m' < m ∧ W (i + 1) m' σ2 ys H3))
def tLC (wi : TI) (js : Cap) (g : TG) (tc : TT) (te : TE) : TE := fun σ H Q => wi σ H fun J H1 => ∀ p, H1 p = none → LcGoal J p js g tc te σ H1 Q

/-- the block's names: its own (local), and those it takes from outside -/
structure CapOk (X : Cx) (N' : List Str) (js : Cap) (scope : Scope) : Prop where
  len : js.length = N'.length
  kind : scope.kind = .function
  ncell : ∀ p ∈ scope.names, p.2 ≠ .cell
  names : ∀ p ∈ scope.names, p.2 = .local → scope.names.lookup p.1 = some .local
  free : ∀ p ∈ scope.names, p.2 = .free → X.env.kindOf p.1 = some .cell ∨ X.env.kindOf p.1 = some .free
  cap : ∀ (i j : Nat), js[i]? = some (some j) → ∃ x, N'[i]? = some x ∧ X.N[j]? = some x ∧ scope.names.lookup x = some .free

theorem lookup_mem {names : List (Str × NameKind)} {x : Str} {k : NameKind} (h : names.lookup x = some k) : (x, k) ∈ names := by
  induction names with
  | nil => cases h
  | cons p r ih =>
    obtain ⟨n, k'⟩ := p
    rw [List.lookup_cons] at h
    cases hb : x == n with
    | true =>
      rw [hb] at h
      cases h
      rw [show x = n from eq_of_beq hb]
      exact List.mem_cons_self
    | false =>
      rw [hb] at h
      exact List.mem_cons_of_mem _ (ih h)
/-- the relabelled kind of a name -/
theorem relabel_kind {scope : Scope} {env : Env} {x : Str} {k : NameKind} (h : (relabel scope env).names.lookup x = some k) : ∃ k0, scope.names.lookup x = some k0 ∧ (k = k0 ∨ (k0 = .free ∧ k = .cell)) := by
  have go : ∀ (names : List (Str × NameKind)), (names.map fun (p : Str × NameKind) => if (p.2 == NameKind.free && env.scope.kind == .function && env.kindOf p.1 == some .cell) then (p.1, NameKind.cell) else (p.1, p.2)).lookup x = some k →
      ∃ k0, names.lookup x = some k0 ∧ (k = k0 ∨ (k0 = .free ∧ k = .cell)) := by
    intro names
    induction names with
    | nil => intro h; cases h
    | cons p r ih =>
      obtain ⟨n, k'⟩ := p
      intro h
      rw [List.map_cons] at h
      by_cases hc : (k' == NameKind.free && env.scope.kind == .function && env.kindOf n == some .cell) = true
      · rw [if_pos hc] at h
        rw [List.lookup_cons] at h ⊢
        cases hb : x == n with
        | true =>
          rw [hb] at h
          cases h
          have : k' = .free := by
            cases k' <;> first | rfl | (simp at hc)
          exact ⟨k', rfl, .inr ⟨this, rfl⟩⟩
        | false =>
          rw [hb] at h
          exact ih h
      · rw [if_neg hc] at h
        rw [List.lookup_cons] at h ⊢
        cases hb : x == n with
        | true =>
          rw [hb] at h
          cases h
          exact ⟨k', rfl, .inl rfl⟩
        | false =>
          rw [hb] at h
          exact ih h
  exact go scope.names h
theorem relabel_free {scope : Scope} {env : Env} {x : Str} (h : scope.names.lookup x = some .free) : (relabel scope env).names.lookup x = some .cell ∨ (relabel scope env).names.lookup x = some .free := by
  have go : ∀ (names : List (Str × NameKind)), names.lookup x = some .free → (names.map fun (p : Str × NameKind) => if (p.2 == NameKind.free && env.scope.kind == .function && env.kindOf p.1 == some .cell) then (p.1, NameKind.cell) else (p.1, p.2)).lookup x = some .cell ∨
      (names.map fun (p : Str × NameKind) => if (p.2 == NameKind.free && env.scope.kind == .function && env.kindOf p.1 == some .cell) then (p.1, NameKind.cell) else (p.1, p.2)).lookup x = some .free := by
    intro names
    induction names with
    | nil => intro h; cases h
    | cons p r ih =>
      obtain ⟨n, k'⟩ := p
      intro h
      rw [List.map_cons]
      rw [List.lookup_cons] at h
      by_cases hc : (k' == NameKind.free && env.scope.kind == .function && env.kindOf n == some .cell) = true
      · rw [if_pos hc, List.lookup_cons]
        cases hb : x == n with
        | true => exact .inl rfl
        | false =>
          rw [hb] at h
          exact ih h
      · rw [if_neg hc, List.lookup_cons]
        cases hb : x == n with
        | true =>
          rw [hb] at h
          exact .inr h
        | false =>
          rw [hb] at h
          exact ih h
  exact go scope.names h

section
variable {X : Cx} {pins : List (Addr × Obj)} {σ : St} {H : Hp} {s : Shared}
/-- the block is entered -/
theorem inv_block {N' : List Str} {js : Cap} {scope : Scope} {cl : List (Str × Addr)} {fp : List Addr} {h₁ : Heap} {t' : Nat} (ok : CapOk X N' js scope) (I : Inv X pins σ H s)
    (h2 : ∀ x c, cl.lookup x = some c → X.env.cells.lookup x = some c) (h3 : ∀ p ∈ scope.names, p.2 = .free → (cl.lookup p.1).isSome = true)
    (hf : ∀ b ∈ fp, FpOk X pins H b) (hlt : ∀ b ∈ fp, b < s.heap.objs.size)
    (k : ∀ b u, s.heap.get? b = some u → h₁.get? b = some u) (hn : ∃ m, h₁.Ns s.heap.objs.size m) :
    Inv (lcx X N' scope cl s.heap.objs.size s H fp) [] (inn js σ) H { s with heap := h₁, toks := t' } := by
  have fresh : H s.heap.objs.size = none := I.hok.fresh (Nat.le_refl _)
  have kind_of : ∀ x, ((relabel scope X.env).names.lookup x = some .cell ∨ (relabel scope X.env).names.lookup x = some .free) → scope.names.lookup x = some .free := fun x hx => by
    rcases hx with hx | hx
    · obtain ⟨k0, e, z⟩ := relabel_kind hx
      rcases z with z | ⟨z, _⟩
      · subst z
        exact absurd rfl (ok.ncell _ (lookup_mem e))
      · subst z; exact e
    · obtain ⟨k0, e, z⟩ := relabel_kind hx
      rcases z with z | ⟨z, z'⟩
      · subst z; exact e
      · cases z'
  have okc : (lcx X N' scope cl s.heap.objs.size s H fp).Ok := by
    refine ⟨I.ok.mod, ok.kind, I.ok.glob, I.ok.blt, Nat.le_refl _, fun x y c e1 e2 => I.ok.inj x y c (h2 x c e1) (h2 y c e2), fun x hx => ?_, fun x c hx => (nomatch hx), I.ok.hd, I.ok.frames, .inl rfl, fun b hb => ⟨Nat.ne_of_lt (hlt b hb), fun x c e => ?_⟩, I.bs, Nat.le_trans I.ok.bsz I.sz, fun b o e hb => ?_, fun b hb hb' => ?_, I.stack, I.stkFree⟩
    · have e := kind_of x hx
      have z := h3 _ (lookup_mem e) rfl
      cases q : cl.lookup x with
      | none => rw [q] at z; cases z
      | some c => exact ⟨c, q⟩
    · exact (hf b hb).2.2.2.2.1 x c (h2 x c e)
    · rcases (hf b hb).2.2.2.1 with z | z
      · exact I.ok.noex b o e z
      · exact absurd (Nat.lt_of_lt_of_le (Heap.lt_size e) (Nat.le_trans I.ok.bsz z)) (Nat.lt_irrefl _)
    · rcases List.mem_cons.mp (I.stkSub b hb') with z | z
      · exact (hf b hb).2.1 z
      · exact (hf b hb).2.2.1 z
  obtain ⟨m, hn⟩ := hn
  refine ⟨okc, rfl, I.bare, Un.kept k, ⟨m, hn, fun i x v e1 e2 e3 => ?_⟩, fun x c e => ?_, fresh, fun x c e => I.freeC x c (h2 x c e), (fun p hp => nomatch hp), I.hok.kept k, by show (inn js σ).length = N'.length; unfold inn; rw [List.length_map]; exact ok.len⟩
  · have e2 : (inn js σ)[i]? = some (some v) := e2
    unfold inn at e2
    rw [List.getElem?_map] at e2
    cases q : js[i]? with
    | none => rw [q] at e2; cases e2
    | some o =>
      rw [q] at e2
      cases o with
      | none => cases e2
      | some j =>
        obtain ⟨x', n1, n2, n3⟩ := ok.cap i j q
        have e1 : N'[i]? = some x := e1
        rw [n1] at e1
        cases e1
        have e2 : (σ[j]?).join = some v := Option.some.inj e2
        have e2' : σ[j]? = some (some v) := by
          cases q2 : σ[j]? with
          | none => rw [q2] at e2; cases e2
          | some o2 => rw [q2] at e2; exact congrArg some e2
        obtain ⟨mo, hno, hlo⟩ := I.loc
        have kx := ok.free _ (lookup_mem n3) rfl
        have vis : Vis X.env.scope x := by
          rcases kx with z | z
          · exact .inr (.inl z)
          · exact .inr (.inr z)
        obtain ⟨u, r, l⟩ := hlo j x v n2 e2' vis
        refine ⟨u, r, .inr ⟨relabel_free n3, ?_⟩⟩
        rcases l with ⟨z, _⟩ | ⟨_, c, hc, hcell⟩
        · rcases kx with y | y <;> (rw [z] at y; cases y)
        · have z := h3 _ (lookup_mem n3) rfl
          cases q3 : cl.lookup x with
          | none => rw [q3] at z; cases z
          | some c' =>
            have := h2 x c' q3
            rw [hc] at this
            cases this
            exact ⟨c, q3, hcell.keeps k⟩
  · obtain ⟨v, hv⟩ := I.cell x c (h2 x c e)
    exact ⟨v, hv.keeps k⟩
end
end L2

set_option Elab.async false
set_option linter.all false
set_option maxRecDepth 100000
namespace L2
open PySem PySem.Spec PyProof.Rows

section
variable {X : Cx} {tg iter elt : Expr} {ifs : List Expr} {wi : TI} {js : Cap} {g : TG} {tc : TT} {te : TE} {N' : List Str} {scope : Scope} {pos : Pos}
/-- the block, from the iterator on: the list stands, the context is as it was -/
theorem lc_block {pins : List (Addr × Obj)} {σ : St} {H : Hp} {s : Shared} {E : Value → Shared → Prop} {Q : VK} {J : It} {it : Addr} {fp : List Addr} {tn : Nat → Heap → Prop} {cl : List (Str × Addr)}
    (hc : X.calm = true) (ok : CapOk X N' js scope)
    (h2 : ∀ x c, cl.lookup x = some c → X.env.cells.lookup x = some c) (h3 : ∀ p ∈ scope.names, p.2 = .free → (cl.lookup p.1).isSome = true)
    (hg : ∀ cl C s₀ H₀ ex, PG (lcx X N' scope cl C s₀ H₀ ex) tg g) (ht : ∀ cl C s₀ H₀ ex, PIfs (lcx X N' scope cl C s₀ H₀ ex) ifs tc) (he : ∀ cl C s₀ H₀ ex, PE (lcx X N' scope cl C s₀ H₀ ex) elt te)
    (I : Inv X pins σ H s) (T : Turn X.prog X.w X.K tg J fp it tn) (st : tn 0 s.heap) (hf : ∀ b ∈ fp, FpOk X pins H b)
    (hw : ∀ p, H p = none → LcGoal J p js g tc te σ H Q) :
    wpAny (model X.prog X.w) X.A (newList []) (fun acc s₃ => wpAny (model X.prog X.w) X.A (newFunctionEnv scope X.env.globals cl [] X.env.qual none .none (some X.env)) (fun cenv s₄ =>
      codeAny (model X.prog X.w) X.A (.compStart (.ListComp elt [⟨tg, iter, ifs, 0⟩] scope pos) 0 (.ref it) acc { cenv with scope := relabel scope X.env })
        (fun r s' => r = .ok .next ∧ (∃ m, s'.heap.Ns cenv.locals m) ∧ ∃ v H', RelV v acc ∧ Inv X pins σ H' s' ∧ FpOk X pins H' cenv.locals ∧ Q v H') s₄) E s₃) E s := by
  have objs := T.obj _ _ st
  refine wpAny_newObj_type ?_ (by show 0 ≤ sizeLine; decide)
  -- the list
  obtain ⟨W, ⟨m0, w0⟩, turn⟩ := hw s.heap.objs.size (I.hok.fresh (Nat.le_refl _))
  generalize hp : s.heap.objs.size = p at *
  have kp : ∀ b u, s.heap.get? b = some u → (s.heap.push { cls := .type "list", dict := none, data := .seq ([] : List Value).toArray }).get? b = some u := fun b u e => Heap.get?_push_of_some _ e
  have I3 : Inv X pins σ (upd H p (.lst [])) { s with heap := s.heap.push { cls := .type "list", dict := none, data := .seq ([] : List Value).toArray } } := by
    refine I.laid (t' := s.toks) kp (by rw [hp]; exact Nat.le_refl _) ⟨Nat.zero_le _, [], 0, .nil, ?_⟩
    have := Heap.get?_push_size s.heap (o := { cls := .type "list", dict := none, data := .seq ([] : List Value).toArray }) rfl
    rw [hp] at this
    exact this
  have fne : ∀ b ∈ fp, b ≠ p := fun b hb => by
    obtain ⟨o, e, _⟩ := objs b hb
    have := Heap.lt_size e
    rw [← hp]
    exact Nat.ne_of_lt this
  have hf3 : ∀ b ∈ fp, FpOk X pins (upd H p (.lst [])) b := fun b hb => ⟨by rw [upd_ne (fne b hb)]; exact (hf b hb).1, (hf b hb).2⟩
  have st3 : tn 0 (s.heap.push { cls := .type "list", dict := none, data := .seq ([] : List Value).toArray }) := T.keep _ _ _ st fun b _ o e => kp b o e
  have lt3 : ∀ b ∈ fp, b < (s.heap.push { cls := .type "list", dict := none, data := .seq ([] : List Value).toArray }).objs.size := fun b hb => by
    obtain ⟨o, e, _⟩ := objs b hb
    exact Heap.lt_size (kp b o e)
  generalize hs3 : ({ s with heap := s.heap.push { cls := .type "list", dict := none, data := .seq ([] : List Value).toArray } } : Shared) = s3 at *
  have eh : s.heap.push { cls := .type "list", dict := none, data := .seq ([] : List Value).toArray } = s3.heap := by rw [← hs3]
  rw [eh] at st3 lt3
  refine wpAny_newFunctionEnv ok.ncell (by intro y hy; simp at hy) (fun h₁ hns₁ hsb₁ => ?_) ok.kind
  try dsimp only at hns₁ hsb₁ ⊢
  have k4 : ∀ b u, s3.heap.get? b = some u → h₁.get? b = some u := fun b u e => (hsb₁.2 b (Nat.ne_of_lt (Heap.lt_size e))).trans (Heap.get?_push_of_some _ e)
  have I4 := inv_block (cl := cl) (h₁ := h₁) (t' := s3.toks + ([] : List (Str × Value)).length) ok I3 h2 h3 hf3 lt3 k4 ⟨_, hns₁⟩
  have st4 : tn 0 h₁ := T.keep _ _ _ st3 fun b _ o e => k4 b o e
  generalize hX : lcx X N' scope cl s3.heap.objs.size s3 (upd H p (.lst [])) fp = X' at I4
  have hg' : PG X' tg g := by rw [← hX]; exact hg _ _ _ _ _
  have ht' : PIfs X' ifs tc := by rw [← hX]; exact ht _ _ _ _ _
  have he' : PE X' elt te := by rw [← hX]; exact he _ _ _ _ _
  have eP : X'.prog = X.prog := by rw [← hX]; rfl
  have ew : X'.w = X.w := by rw [← hX]; rfl
  have eK : X'.K = X.K := by rw [← hX]; rfl
  have ec : X'.calm = true := by rw [← hX]; exact hc
  have eA : X'.A = X.A := by rw [← hX]; rfl
  have ex : X'.xe = fun _ _ => False := by rw [← hX]; rfl
  have eE : X'.env = compEnvC scope cl s3.heap.objs.size X.env := by rw [← hX]; rfl
  have eEx : X'.ex = fp := by rw [← hX]; rfl
  have eN : X'.pn = [] := by rw [← hX]; rfl
  -- the iterator's own objects, seen from within
  have stat : ∀ {H' : Hp}, (∀ b ∈ fp, H' b = none) → ∀ b ∈ fp, FpOk X' [] H' b := fun {H'} hn b hb => by
    have okc := I4.ok
    refine ⟨hn b hb, (okc.exf b (by rw [eEx]; exact hb)).1, okc.exfs b (by rw [eEx]; exact hb), .inl (by rw [eEx]; exact hb), (okc.exf b (by rw [eEx]; exact hb)).2, fun q hq => ?_⟩
    rw [eN] at hq
    cases hq
  have loop : ∀ s₄ : Shared, s₄ = { s3 with heap := h₁, toks := s3.toks + ([] : List (Str × Value)).length } →
      codeAny (model X.prog X.w) X.A (.compLoop (.ListComp elt [⟨tg, iter, ifs, 0⟩] scope pos) 0 (.ref it) (.ref p) (compEnvC scope cl s3.heap.objs.size X.env))
        (fun r s' => r = .ok .next ∧ (∃ m, s'.heap.Ns s3.heap.objs.size m) ∧ ∃ v H', RelV v (.ref p) ∧ Inv X pins σ H' s' ∧ FpOk X pins H' s3.heap.objs.size ∧ Q v H') s₄ := by
    rintro s₄ rfl
    refine compLoop_go (fun n s' => ∃ i σ' ys H', Inv X' [] σ' H' s' ∧ tn i s'.heap ∧ (∀ b ∈ fp, H' b = none) ∧ W i n σ' ys H') ?_ m0 ⟨0, _, [], _, I4, st4, fun b hb => (hf3 b hb).1, w0⟩
    rintro n s5 ⟨i, σ5, ys, H5, I5, st5, fr5, w5⟩
    obtain ⟨hp5, tu⟩ := turn i n σ5 ys H5 w5
    rcases tu with ⟨stop, qn⟩ | ⟨go, hz, step⟩
    · have D := T.done X' eP ew eK ec i [] s5 σ5 H5 (fun _ _ => False) I5 (stat fr5) st5 stop
      rw [eA] at D
      refine thn D fun r s6 ⟨hr, I6⟩ => ?_
      subst hr
      refine ⟨rfl, ?_, .ref p, H5, rfl, ?_, ?_, qn⟩
      · obtain ⟨m, hm, _⟩ := I6.loc
        rw [eE] at hm
        exact ⟨m, hm⟩
      · have b6 := I6.base
        have ho := I6.os
        have hk := I6.hok
        have hb := I6.bare
        subst hX
        exact I3.call' (ch := fp) ho b6 hk hb fun b hb' => ⟨(hf b hb').2.2.2.1, (hf b hb').2.1, (hf b hb').2.2.2.2.1, (hf b hb').2.2.2.2.2⟩
      · have fr := I6.free
        rw [eE] at fr
        exact I3.fpOk (Nat.le_refl _) fr
    · have D := T.item X' eP ew eK ec i [] s5 σ5 H5 (fun _ _ => False) I5 (stat fr5) st5 go
      rw [eA] at D
      refine thn D fun r s6 ⟨u, hr, h6⟩ => ?_
      subst hr
      refine thn h6 fun _ s7 ⟨x, H7, I7, r7, y7, st7, fr7⟩ => ?_
      have I7' := I7.pinned (stat fr7) (T.obj _ _ st7)
      have G := hg' _ s7 σ5 H7 x u _ I7' r7 (step x H7 y7)
      rw [eP, ew, eA, ex, eE] at G
      refine thn G fun _ s8 ⟨σ8, H8, I8, q8⟩ => ?_
      have Tt := ht' _ s8 σ8 H8 _ I8 q8
      rw [eP, ew, eA, ex, eE] at Tt
      refine thn Tt fun b s9 ⟨H9, I9, q9⟩ => ?_
      have again : ∀ {s' : Shared} {ys' : List V} {H' : Hp}, Inv X' ([] ++ pinsAt fp s7.heap) σ8 H' s' → (∃ m', m' < n ∧ W (i + 1) m' σ8 ys' H') →
          ∃ m, m < n ∧ ∃ i σ' ys H', Inv X' [] σ' H' s' ∧ tn i s'.heap ∧ (∀ b ∈ fp, H' b = none) ∧ W i m σ' ys H' := fun {s' ys' H'} I' ⟨m', hm, w'⟩ => by
        refine ⟨m', hm, i + 1, σ8, ys', H', I'.unpinned, T.keep _ _ _ st7 fun b hb o e => (I'.pin (b, o) (List.mem_append_right _ (List.mem_append_right _ (mem_pinsAt hb e)))).1, fun b hb => ?_, w'⟩
        obtain ⟨o, e, d⟩ := T.obj _ _ st7 b hb
        exact (I'.pin (b, o) (List.mem_append_right _ (List.mem_append_right _ (mem_pinsAt hb e)))).2.1
      cases b with
      | false => exact again I9 q9
      | true =>
        have Ee := he' _ s9 σ8 H9 _ I9 q9
        rw [eP, ew, eA, ex, eE] at Ee
        show wpAny _ _ _ _ _ _
        refine thn Ee fun xv s10 ⟨y, H10, I10, r10, hp10, q10⟩ => ?_
        have Ap := mt_append (X := X') _ s10 σ8 H10 (.ref p) [y] (.ref p) [xv] (fun _ H' => H' = upd H10 p (.lst (ys ++ [y]))) I10 rfl (.cons r10 .nil) ⟨p, ys, y, rfl, rfl, hp10, hz, rfl⟩
        rw [eP, ew, eA, ex] at Ap
        refine thn Ap fun _ s11 ⟨_, H11, I11, _, e11⟩ => ?_
        subst e11
        exact again I11 q10
  exact codeAny_compStart_list (loop _ rfl) (T.self _ 0 _ _ _ st4 (loop _ rfl))
/-- [elt for tg in iter if ..] as a value -/
theorem pe_lc (hc : X.calm = true) (ok : CapOk X N' js scope) (hi : PI X tg iter wi)
    (hg : ∀ cl C s₀ H₀ ex, PG (lcx X N' scope cl C s₀ H₀ ex) tg g) (ht : ∀ cl C s₀ H₀ ex, PIfs (lcx X N' scope cl C s₀ H₀ ex) ifs tc) (he : ∀ cl C s₀ H₀ ex, PE (lcx X N' scope cl C s₀ H₀ ex) elt te)
    (hs : ∀ x, foldedSetIterable iter X.env x = pure x := by intro _; rfl) : PE X (.ListComp elt [⟨tg, iter, ifs, 0⟩] scope pos) (tLC wi js g tc te) := by
  intro pins s σ H Q I h
  obtain ⟨cl, c1, c2, c3⟩ := clos_of (scope := scope) I.ok.has ok.free
  rw [eval_ListComp]
  refine wpAny_comprehension_free (use := none) rfl hs c1 ok.kind ok.names (thn (hi pins s σ H _ I h) fun v s1 h1 => thn h1 fun itv s2 h2 => ?_)
  obtain ⟨it, fp, tn, J, H2, e, I2, T, st2, f2, hw⟩ := h2
  subst e
  refine wpAny_mono (lc_block (iter := iter) (pos := pos) hc ok c2 c3 hg ht he I2 T st2 f2 hw) (fun acc s3 h3 => wpAny_mono h3 (fun cenv s4 h4 => ?_) fun _ _ z => z) fun _ _ z => z
  refine codeAny_mono h4 fun r s5 h5 => ?_
  obtain ⟨rfl, ⟨m, hm⟩, v, H5, rv, I5, f5, q5⟩ := h5
  refine ⟨m, hm, fun h' sb => ?_⟩
  obtain ⟨f0, f1, _, f3, f4, f6⟩ := f5
  exact ⟨v, H5, I5.turned (t' := s5.toks) (fun b o hb e => (sb.2 b hb).trans e) f0 f1 f3 f4 f6, rv, q5⟩
/-- name = [elt for tg in iter if ..]: stored ahead of the block's end -/
theorem ps_setLC {i : Nat} {x : Str} {px : Pos} {spos : Pos} (hN : X.N.Nodup) (hi' : X.N[i]? = some x) (hx : Loc X.env.scope x) (hc : X.calm = true) (ok : CapOk X N' js scope) (hi : PI X tg iter wi)
    (hg : ∀ cl C s₀ H₀ ex, PG (lcx X N' scope cl C s₀ H₀ ex) tg g) (ht : ∀ cl C s₀ H₀ ex, PIfs (lcx X N' scope cl C s₀ H₀ ex) ifs tc) (he : ∀ cl C s₀ H₀ ex, PE (lcx X N' scope cl C s₀ H₀ ex) elt te)
    (hsw : swapsWith (.ListComp elt [⟨tg, iter, ifs, 0⟩] scope pos) (some (.Name x px)) spos.line X.env = pure true := by rfl)
    (hs : ∀ x, foldedSetIterable iter X.env x = pure x := by intro _; rfl) (hf : X.fn x = true ∨ X.env.scope.names.lookup x = some .local := by first | exact .inl rfl | exact .inr rfl | assumption) :
    PS X (.Assign [.Name x px] (.ListComp elt [⟨tg, iter, ifs, 0⟩] scope pos) spos) (tAsg (tLC wi js g tc te) (gName i)) := by
  intro pins s σ H D I h
  obtain ⟨cl, c1, c2, c3⟩ := clos_of (scope := scope) I.ok.has ok.free
  rw [exec_Assign_Name_used _ _ _ _ hsw]
  refine wpAny_bind (wpAny_standAt (wpAny_bind ?_))
  show wpAny _ X.A (do let _ ← comprehension (.ListComp elt [⟨tg, iter, ifs, 0⟩] scope pos) scope X.env _ (newList []) false (eval iter X.env) (some (assign (.Name x px) X.env))) _ _ s
  refine wpAny_bind (wpAny_mono (wpAny_comprehension_free (use := some (assign (.Name x px) X.env)) (Q := fun _ s' => SP X pins D .next s') rfl hs c1 ok.kind ok.names
    (thn (hi pins s σ H _ I h) fun v s1 h1 => thn h1 fun itv s2 h2 => ?_)) (fun _ s' hq => wpAny_pure (wpAny_pure hq)) fun _ _ e => e)
  obtain ⟨it, fp, tn, J, H2, e, I2, T, st2, f2, hw⟩ := h2
  subst e
  refine wpAny_mono (lc_block (Q := fun x H1 => gName i x σ H1 D.nx) (iter := iter) (pos := pos) hc ok c2 c3 hg ht he I2 T st2 f2 hw) (fun acc s3 h3 => wpAny_mono h3 (fun cenv s4 h4 => ?_) fun _ _ z => z) fun _ _ z => z
  refine codeAny_mono h4 fun r s5 h5 => ?_
  obtain ⟨rfl, ⟨m, hm⟩, v, H5, rv, I5, f5, q5⟩ := h5
  obtain ⟨f0, f1, f2', f3, f4, f6⟩ := f5
  show wpAny _ X.A (assign (.Name x px) X.env acc) _ _ _
  refine wpAny_assign_Name (store_ok2 I5 hN hi' hx rv (fun s6 I6 ch => ?_) hf)
  obtain ⟨a, sb, ha⟩ := ch
  have na : cenv.locals ≠ a := by
    rcases ha with z | z
    · rw [z]; exact f1
    · exact fun y => f4 x a z y.symm
  refine ⟨m, hm.sameBut sb na, fun h' sb' => ⟨_, H5, I6.turned (t' := s6.toks) (fun b o hb e => (sb'.2 b hb).trans e) f0 f1 f3 f4 f6, q5⟩⟩
end
end L2

set_option Elab.async false
set_option linter.all false
set_option maxRecDepth 100000
set_option exponentiation.threshold 2000
namespace L2
open PySem PySem.Spec PyProof.Rows

/-! ### wider arithmetic -/
def CPowB (i j : Int) : Prop := 0 ≤ j ∧ j ≤ 1000 ∧ i.natAbs < 2 ^ 1000
def CDivW (i j : Int) : Prop := 0 < j ∧ j < 2 ^ 1000
section
variable {X : Cx}
theorem op_powB : OpR X (binaryOp .Pow) (rI CPowB fun i j => .int (i ^ j.toNat)) := opI fun i j _ _ _ _ _ hc q => by
  obtain ⟨h0, h1, h2⟩ := hc
  refine pow_int h0 ?_ q
  have hb : Builtin.Int.intBits i ≤ 1000 := intBits_le h2
  have e1 : ((Builtin.Int.intBits i : Nat) : Int) * j ≤ 1000 * 1000 := by
    have a1 : ((Builtin.Int.intBits i : Nat) : Int) * j ≤ 1000 * j := Int.mul_le_mul_of_nonneg_right (by omega) h0
    have a2 : 1000 * j ≤ 1000 * 1000 := Int.mul_le_mul_of_nonneg_left h1 (by decide)
    exact Int.le_trans a1 a2
  exact Int.le_trans e1 (by decide)
theorem op_fdivW : OpR X (binaryOp .FloorDiv) (rI CDivW fun i j => .int (i / j)) := opI fun i j _ _ _ _ _ hc q => by
  obtain ⟨h0, h1⟩ := hc
  refine floordiv_int (by omega) ?_ (.inl (PyProof.noPylong_of_log2 ?_))
  · rw [Int.fdiv_eq_ediv_of_nonneg _ (by omega)]
    exact q
  · have h2 : j.natAbs < 2 ^ 1000 := by
      have e : ((j.natAbs : Nat) : Int) = j := by omega
      have h3 : ((j.natAbs : Nat) : Int) < ((2 ^ 1000 : Nat) : Int) := by
        rw [e, Int.natCast_pow]
        exact h1
      exact Int.ofNat_lt.mp h3
    have h4 : j.natAbs ≠ 0 := by omega
    have h5 := (Nat.log2_lt h4).mpr h2
    omega
end

/-! ### data -/
inductive PD where
  | non | bl (b : Bool) | int (i : Int) | str (x : Str) | lst (ds : List PD) | tup (ds : List PD)

mutual
def Rep (K : PySem.W.Frag) (H : Hp) : PD → V → Prop
  | .non, v => v = .non
  | .bl b, v => v = .bl b
  | .int i, v => v = .int i
  | .str x, v => v = .str x
  | .lst ds, v => ∃ a xs, v = .ref a ∧ SqL K H a xs ∧ Reps K H ds xs
  | .tup ds, v => ∃ a xs, v = .ref a ∧ SqT K H a xs ∧ Reps K H ds xs
def Reps (K : PySem.W.Frag) (H : Hp) : List PD → List V → Prop
  | [], xs => xs = []
  | d :: ds, xs => ∃ x r, xs = x :: r ∧ Rep K H d x ∧ Reps K H ds r
end
mutual
def pyEq : PD → PD → Bool
  | .non, .non => true
  | .bl a, .bl b => a == b
  | .bl a, .int b => (if a then 1 else 0) == b
  | .int a, .bl b => a == (if b then 1 else 0)
  | .int a, .int b => a == b
  | .str a, .str b => a == b
  | .lst xs, .lst ys => pyEqs xs ys
  | .tup xs, .tup ys => pyEqs xs ys
  | _, _ => false
def pyEqs : List PD → List PD → Bool
  | [], [] => true
  | x :: xs, y :: ys => pyEq x y && pyEqs xs ys
  | _, _ => false
end
mutual
def depthD : PD → Nat
  | .lst ds => depthDs ds + 1
  | .tup ds => depthDs ds + 1
  | _ => 0
def depthDs : List PD → Nat
  | [] => 0
  | d :: ds => max (depthD d) (depthDs ds)
end
mutual
theorem pyEq_refl : ∀ d : PD, pyEq d d = true
  | .non => rfl
  | .bl b => by simp [pyEq]
  | .int i => by simp [pyEq]
  | .str x => by simp [pyEq]
  | .lst ds => by rw [pyEq]; exact pyEqs_refl ds
  | .tup ds => by rw [pyEq]; exact pyEqs_refl ds
theorem pyEqs_refl : ∀ ds : List PD, pyEqs ds ds = true
  | [] => by rw [pyEqs]
  | d :: ds => by rw [pyEqs, pyEq_refl d, pyEqs_refl ds]; rfl
end
theorem Reps.length {K : PySem.W.Frag} {H : Hp} : ∀ {ds : List PD} {xs : List V}, Reps K H ds xs → xs.length = ds.length
  | [], xs, h => by rw [Reps] at h; rw [h]; rfl
  | d :: ds, xs, h => by
    rw [Reps] at h
    obtain ⟨x, r, rfl, _, h⟩ := h
    rw [List.length_cons, List.length_cons, Reps.length h]
theorem pyEqs_len : ∀ {xs ys : List PD}, xs.length ≠ ys.length → pyEqs xs ys = false
  | [], [], h => absurd rfl h
  | [], _ :: _, _ => by rw [pyEqs]; all_goals simp
  | _ :: _, [], _ => by rw [pyEqs]; all_goals simp
  | x :: xs, y :: ys, h => by
    rw [pyEqs, pyEqs_len (xs := xs) (ys := ys) (by simpa using h)]
    simp
def eqJ (xs ys : List PD) (j : Nat) : Bool := match xs[j]?, ys[j]? with
  | some a, some b => pyEq a b
  | _, _ => false
theorem pyEqs_range : ∀ (xs ys : List PD), xs.length = ys.length → (List.range xs.length).all (eqJ xs ys) = pyEqs xs ys
  | [], [], _ => by rw [pyEqs]; rfl
  | x :: xs, y :: ys, h => by
    rw [pyEqs, List.length_cons, List.range_succ_eq_map, List.all_cons, List.all_map]
    rw [← pyEqs_range xs ys (by simpa using h)]
    rfl

theorem SqT.notL {K : PySem.W.Frag} {X : Cx} {pins : List (Addr × Obj)} {σ : St} {H : Hp} {s : Shared} {a : Addr} {xs ys : List V} (I : Inv X pins σ H s) (h : SqT X.K H a xs) (h' : SqL X.K H a ys) : False := by
  obtain ⟨its, _, p, _⟩ := I.tuple h
  obtain ⟨its', _, p', _⟩ := I.list h'
  exact SeqAt.ne_of_list_tuple p'.isList (show s.heap.IsTuple a its.toArray from p) rfl

section
variable {X : Cx} {pins : List (Addr × Obj)} {σ : St} {H : Hp} {s : Shared}
mutual
theorem rep_inj (I : Inv X pins σ H s) : ∀ (d e : PD) (v : V), Rep X.K H d v → Rep X.K H e v → d = e
  | .non, e, v, h, h' => by
    rw [Rep] at h; subst h
    cases e <;> rw [Rep] at h' <;> first | rfl | (obtain ⟨_, _, z, _⟩ := h'; cases z; done) | (cases h'; done)
  | .bl b, e, v, h, h' => by
    rw [Rep] at h; subst h
    cases e <;> rw [Rep] at h' <;> first | (obtain ⟨_, _, z, _⟩ := h'; cases z; done) | (cases h'; done) | (cases h'; rfl)
  | .int i, e, v, h, h' => by
    rw [Rep] at h; subst h
    cases e <;> rw [Rep] at h' <;> first | (obtain ⟨_, _, z, _⟩ := h'; cases z; done) | (cases h'; done) | (cases h'; rfl)
  | .str x, e, v, h, h' => by
    rw [Rep] at h; subst h
    cases e <;> rw [Rep] at h' <;> first | (obtain ⟨_, _, z, _⟩ := h'; cases z; done) | (cases h'; done) | (cases h'; rfl)
  | .lst ds, e, v, h, h' => by
    rw [Rep] at h
    obtain ⟨a, xs, rfl, q, r⟩ := h
    cases e with
    | lst es =>
      rw [Rep] at h'
      obtain ⟨a', ys, z, q', r'⟩ := h'
      cases z
      have := I.list_inj q q'
      subst this
      rw [reps_inj I ds es xs r r']
    | tup es =>
      rw [Rep] at h'
      obtain ⟨a', ys, z, q', r'⟩ := h'
      cases z
      exact (SqT.notL (K := X.K) I q' q).elim
    | _ => rw [Rep] at h'; cases h'
  | .tup ds, e, v, h, h' => by
    rw [Rep] at h
    obtain ⟨a, xs, rfl, q, r⟩ := h
    cases e with
    | tup es =>
      rw [Rep] at h'
      obtain ⟨a', ys, z, q', r'⟩ := h'
      cases z
      have := I.tuple_inj q q'
      subst this
      rw [reps_inj I ds es xs r r']
    | lst es =>
      rw [Rep] at h'
      obtain ⟨a', ys, z, q', r'⟩ := h'
      cases z
      exact (SqT.notL (K := X.K) I q q').elim
    | _ => rw [Rep] at h'; cases h'
theorem reps_inj (I : Inv X pins σ H s) : ∀ (ds es : List PD) (vs : List V), Reps X.K H ds vs → Reps X.K H es vs → ds = es
  | [], es, vs, h, h' => by
    rw [Reps] at h; subst h
    cases es with
    | nil => rfl
    | cons e es => rw [Reps] at h'; obtain ⟨_, _, z, _⟩ := h'; cases z
  | d :: ds, es, vs, h, h' => by
    rw [Reps] at h
    obtain ⟨x, r, rfl, h1, h2⟩ := h
    cases es with
    | nil => rw [Reps] at h'; cases h'
    | cons e es =>
      rw [Reps] at h'
      obtain ⟨x', r', z, h1', h2'⟩ := h'
      cases z
      rw [rep_inj I d e x h1 h1', reps_inj I ds es r h2 h2']
end

/-! == within: an answer for every place -/
mutual
theorem eqAt_rep (I : Inv X pins σ H s) : ∀ (A : Around) (d e : PD) (v w : V) (u y : Value), Rep X.K H d v → Rep X.K H e w → RelV v u → RelV w y → A.units + depthD d < cLine → SeqAt.EqAt A s u y (pyEq d e)
  | A, .non, e, v, w, u, y, h, h', r, r', z => by
    rw [Rep] at h; subst h; cases r
    cases e with
    | non => rw [Rep] at h'; subst h'; cases r'; rw [pyEq]; exact SeqAt.EqAt.same _
    | bl b => rw [Rep] at h'; subst h'; cases r'; exact SeqAt.EqAt.none_bool b
    | int b => rw [Rep] at h'; subst h'; obtain ⟨t, rfl⟩ := r'; exact SeqAt.EqAt.none_int b t
    | str b => rw [Rep] at h'; subst h'; obtain ⟨t, rfl⟩ := r'; exact SeqAt.EqAt.none_str b t
    | lst es => rw [Rep] at h'; obtain ⟨a, xs, rfl, q, _⟩ := h'; cases r'; obtain ⟨its, _, p, _⟩ := I.list q; exact SeqAt.EqAt.none_list p.isList (by omega)
    | tup es => rw [Rep] at h'; obtain ⟨a, xs, rfl, q, _⟩ := h'; cases r'; obtain ⟨its, _, p, _⟩ := I.tuple q; exact SeqAt.EqAt.none_tuple p (by omega)
  | A, .bl c, e, v, w, u, y, h, h', r, r', z => by
    rw [Rep] at h; subst h; cases r
    cases e with
    | non => rw [Rep] at h'; subst h'; cases r'; exact SeqAt.EqAt.bool_none c
    | bl b => rw [Rep] at h'; subst h'; cases r'; exact SeqAt.EqAt.bool_bool c b
    | int b => rw [Rep] at h'; subst h'; obtain ⟨t, rfl⟩ := r'; exact SeqAt.EqAt.bool_int c b t
    | str b => rw [Rep] at h'; subst h'; obtain ⟨t, rfl⟩ := r'; exact SeqAt.EqAt.bool_str c b t
    | lst es => rw [Rep] at h'; obtain ⟨a, xs, rfl, q, _⟩ := h'; cases r'; obtain ⟨its, _, p, _⟩ := I.list q; exact SeqAt.EqAt.bool_list c p.isList (by omega)
    | tup es => rw [Rep] at h'; obtain ⟨a, xs, rfl, q, _⟩ := h'; cases r'; obtain ⟨its, _, p, _⟩ := I.tuple q; exact SeqAt.EqAt.bool_tuple c p (by omega)
  | A, .int c, e, v, w, u, y, h, h', r, r', z => by
    rw [Rep] at h; subst h; obtain ⟨tc, rfl⟩ := r
    cases e with
    | non => rw [Rep] at h'; subst h'; cases r'; exact SeqAt.EqAt.int_none c tc
    | bl b => rw [Rep] at h'; subst h'; cases r'; exact SeqAt.EqAt.int_bool c tc b
    | int b => rw [Rep] at h'; subst h'; obtain ⟨t, rfl⟩ := r'; exact SeqAt.EqAt.int_int c tc b t
    | str b => rw [Rep] at h'; subst h'; obtain ⟨t, rfl⟩ := r'; exact SeqAt.EqAt.int_str c tc b t
    | lst es => rw [Rep] at h'; obtain ⟨a, xs, rfl, q, _⟩ := h'; cases r'; obtain ⟨its, _, p, _⟩ := I.list q; exact SeqAt.EqAt.int_list c tc p.isList (by omega)
    | tup es => rw [Rep] at h'; obtain ⟨a, xs, rfl, q, _⟩ := h'; cases r'; obtain ⟨its, _, p, _⟩ := I.tuple q; exact SeqAt.EqAt.int_tuple c tc p (by omega)
  | A, .str c, e, v, w, u, y, h, h', r, r', z => by
    rw [Rep] at h; subst h; obtain ⟨tc, rfl⟩ := r
    cases e with
    | non => rw [Rep] at h'; subst h'; cases r'; exact SeqAt.EqAt.str_none c tc
    | bl b => rw [Rep] at h'; subst h'; cases r'; exact SeqAt.EqAt.str_bool c tc b
    | int b => rw [Rep] at h'; subst h'; obtain ⟨t, rfl⟩ := r'; exact SeqAt.EqAt.str_int c tc b t
    | str b => rw [Rep] at h'; subst h'; obtain ⟨t, rfl⟩ := r'; exact SeqAt.EqAt.str_str c tc b t
    | lst es => rw [Rep] at h'; obtain ⟨a, xs, rfl, q, _⟩ := h'; cases r'; obtain ⟨its, _, p, _⟩ := I.list q; exact SeqAt.EqAt.str_list c tc p.isList (by omega)
    | tup es => rw [Rep] at h'; obtain ⟨a, xs, rfl, q, _⟩ := h'; cases r'; obtain ⟨its, _, p, _⟩ := I.tuple q; exact SeqAt.EqAt.str_tuple c tc p (by omega)
  | A, .lst ds, e, v, w, u, y, h, h', r, r', z => by
    have h0 := h
    rw [Rep] at h; obtain ⟨a, xs, rfl, q, qs⟩ := h; cases r
    obtain ⟨its, rv, p, _⟩ := I.list q
    cases e with
    | non => rw [Rep] at h'; subst h'; cases r'; exact SeqAt.EqAt.list_none p.isList (by omega)
    | bl b => rw [Rep] at h'; subst h'; cases r'; exact SeqAt.EqAt.list_bool b p.isList (by omega)
    | int b => rw [Rep] at h'; subst h'; obtain ⟨t, rfl⟩ := r'; exact SeqAt.EqAt.list_int b t p.isList (by omega)
    | str b => rw [Rep] at h'; subst h'; obtain ⟨t, rfl⟩ := r'; exact SeqAt.EqAt.list_str b t p.isList (by omega)
    | tup es => rw [Rep] at h'; obtain ⟨b, ys, rfl, q', _⟩ := h'; cases r'; obtain ⟨its', _, p', _⟩ := I.tuple q'; exact SeqAt.EqAt.list_tuple p.isList p' (by omega)
    | lst es =>
      have h0' := h'
      rw [Rep] at h'; obtain ⟨b, ys, rfl, q', qs'⟩ := h'; cases r'
      obtain ⟨its', rv', p', _⟩ := I.list q'
      by_cases hab : a = b
      · subst hab
        rw [rep_inj I _ _ _ h0 h0', pyEq_refl]
        exact SeqAt.EqAt.same _
      · refine SeqAt.EqAt.of_refs hab ?_
        rw [pyEq]
        rw [depthD] at z
        have l1 := qs.length
        have l2 := qs'.length
        have l3 := rv.length
        have l4 := rv'.length
        by_cases hl : ds.length = es.length
        · rw [← pyEqs_range ds es hl]
          have := SeqAt.RcAt.lists (e := eqJ ds es) p.isList p'.isList (by simp; omega) (by omega) (fun j h1 h2 => ?_) (A := A)
          · simp only [List.size_toArray] at this
            rw [show ds.length = its.length by omega]
            exact this
          · have := eqAts_rep I A.in1 ds es xs ys its its' qs qs' rv rv' (by rw [Around.in1_units]; omega) j (by simpa using h1) (by simpa using h2)
            simpa using this
        · rw [pyEqs_len hl]
          exact SeqAt.RcAt.lists_lengths p.isList p'.isList (by simp; omega) (by omega)
  | A, .tup ds, e, v, w, u, y, h, h', r, r', z => by
    have h0 := h
    rw [Rep] at h; obtain ⟨a, xs, rfl, q, qs⟩ := h; cases r
    obtain ⟨its, rv, p, _⟩ := I.tuple q
    cases e with
    | non => rw [Rep] at h'; subst h'; cases r'; exact SeqAt.EqAt.tuple_none p (by omega)
    | bl b => rw [Rep] at h'; subst h'; cases r'; exact SeqAt.EqAt.tuple_bool b p (by omega)
    | int b => rw [Rep] at h'; subst h'; obtain ⟨t, rfl⟩ := r'; exact SeqAt.EqAt.tuple_int b t p (by omega)
    | str b => rw [Rep] at h'; subst h'; obtain ⟨t, rfl⟩ := r'; exact SeqAt.EqAt.tuple_str b t p (by omega)
    | lst es => rw [Rep] at h'; obtain ⟨b, ys, rfl, q', _⟩ := h'; cases r'; obtain ⟨its', _, p', _⟩ := I.list q'; exact SeqAt.EqAt.tuple_list p p'.isList (by omega)
    | tup es =>
      have h0' := h'
      rw [Rep] at h'; obtain ⟨b, ys, rfl, q', qs'⟩ := h'; cases r'
      obtain ⟨its', rv', p', _⟩ := I.tuple q'
      by_cases hab : a = b
      · subst hab
        rw [rep_inj I _ _ _ h0 h0', pyEq_refl]
        exact SeqAt.EqAt.same _
      · refine SeqAt.EqAt.of_refs hab ?_
        rw [pyEq]
        rw [depthD] at z
        have l1 := qs.length
        have l2 := qs'.length
        have l3 := rv.length
        have l4 := rv'.length
        have := SeqAt.RcAt.tuples (e := eqJ ds es) p p' (by omega) (fun j h1 h2 => ?_) (A := A)
        · simp only [List.size_toArray] at this
          by_cases hl : ds.length = es.length
          · rw [← pyEqs_range ds es hl]
            rw [show min its.length its'.length = ds.length by omega, show (its.length == its'.length) = true by simp; omega, Bool.and_true] at this
            exact this
          · rw [pyEqs_len hl]
            rw [show (its.length == its'.length) = false by simp; omega, Bool.and_false] at this
            exact this
        · have := eqAts_rep I A.in1 ds es xs ys its its' qs qs' rv rv' (by rw [Around.in1_units]; omega) j (by simpa using h1) (by simpa using h2)
          simpa using this
theorem eqAts_rep (I : Inv X pins σ H s) : ∀ (A : Around) (ds es : List PD) (vs ws : List V) (us ys : List Value), Reps X.K H ds vs → Reps X.K H es ws → Vals vs us → Vals ws ys → A.units + depthDs ds < cLine →
    ∀ (j : Nat) (h1 : j < us.length) (h2 : j < ys.length), SeqAt.EqAt A s us[j] ys[j] (eqJ ds es j)
  | A, [], es, vs, ws, us, ys, h, h', r, r', z => by
    rw [Reps] at h; subst h; cases r
    intro j h1; exact absurd h1 (Nat.not_lt_zero _)
  | A, d :: ds, es, vs, ws, us, ys, h, h', r, r', z => by
    rw [Reps] at h
    obtain ⟨x, vr, rfl, g1, g2⟩ := h
    cases es with
    | nil =>
      rw [Reps] at h'; subst h'; cases r'
      intro j h1 h2; exact absurd h2 (Nat.not_lt_zero _)
    | cons e es =>
      rw [Reps] at h'
      obtain ⟨x', vr', rfl, g1', g2'⟩ := h'
      cases r with
      | cons ra rb =>
        cases r' with
        | cons ra' rb' =>
          rw [depthDs] at z
          intro j h1 h2
          cases j with
          | zero => exact eqAt_rep I A d e x x' _ _ g1 g1' ra ra' (by omega)
          | succ j => exact eqAts_rep I A ds es vr vr' _ _ g2 g2' rb rb' (by omega) j (by simpa using h1) (by simpa using h2)
end
end
end L2

set_option Elab.async false
set_option linter.all false
set_option maxRecDepth 100000
set_option exponentiation.threshold 2000
namespace L2
open PySem PySem.Spec PyProof.Rows

section
variable {prog : Program} {w : World} {A : Around} {R : Result → Shared → Prop} {J : Addr} {fo wo : List Addr} {len : Nat} {At : Nat → Value → Prop} {Sx : Nat → Heap → Prop}
theorem max_go_kw (kw : List (Str × Value)) (Z : Walks prog w A.in1 J fo wo len At Sx) (bt : Nat → Nat → Bool) (cm : CmpOf prog w A.in1 .Gt At bt) (B : Addr) (nB : B ∉ fo) :
    ∀ (k j : Nat) (s : Shared) (best : Value) (c : Nat), len - (j + 1) = k → j + 1 ≤ len → Sx (j + 1) s.heap → At (argBest bt j) best →
    s.heap.get? B = some { cls := .type "list", dict := none, data := .seq #[best, best] c, slots := #[] } →
    (∀ v g t', At (argBest bt (len - 1)) v → (∀ b o, b ∉ wo → b ≠ B → s.heap.get? b = some o → g.get? b = some o) → R (.ok (.ret v)) { s with heap := g, toks := t' }) →
    codeAny (model prog w) A (.builtin "max.loop" ⟨[.ref J, .none, .ref B], kw⟩) R s := by
  have nW : B ∉ wo := fun z => nB (Z.sub _ z)
  have nm : (toString "max" ++ toString ".loop" : String) = "max.loop" := by decide
  intro k
  induction k with
  | zero =>
    intro j s best c e0 e1 sx ab eB fin
    have last : j + 1 = len := by omega
    refine codeAny_builtin F.entry_max_loop ?_
    rw [Around.under_plainId F.plain_max_loop _]
    show wpAny _ _ (seqItems? (.ref B) >>= _) _ _ _
    refine wpAny_bind (wpAny_seqItems eB rfl ?_)
    show wpAny _ _ (tryCatch (pyNext (.ref J)) _ >>= _) _ _ _
    refine wpAny_bind (wpAny_tryCatch (Z.done s _ _ (last ▸ sx) fun g t' kp => ?_))
    have eB' := kp B _ nW eB
    show wpAny _ _ (updateSeq B (fun _ => #[]) >>= _) _ _ _
    refine wpAny_bind ?_
    refine wpAny_updateSeq eB' rfl (wpAny_bind (wpAny_letGo (wpAny_pure ?_)))
    exact fin best _ t' (by rw [← last]; exact ab) fun b o h1 h2 e => (Heap.get?_update_other _ _ (Ne.symm h2)).trans (kp b o h1 e)
  | succ k ih =>
    intro j s best c e0 e1 sx ab eB fin
    have more : j + 1 < len := by omega
    refine codeAny_builtin F.entry_max_loop ?_
    rw [Around.under_plainId F.plain_max_loop _]
    show wpAny _ _ (seqItems? (.ref B) >>= _) _ _ _
    refine wpAny_bind (wpAny_seqItems eB rfl ?_)
    show wpAny _ _ (tryCatch (pyNext (.ref J)) _ >>= _) _ _ _
    refine wpAny_bind (wpAny_tryCatch (Z.item (j + 1) s _ _ more sx fun v g t' av sx' kp => ?_))
    have eB' := kp B _ nW eB
    show wpAny _ _ (tryCatch (holding [v, v] (richCompare .Gt v best >>= _)) _ >>= _) _ _ _
    refine wpAny_bind (wpAny_tryCatch (wpAny_holding (wpAny_bind (cm (j + 1) (argBest bt j) v best _ _ _ av ab ?_))))
    refine wpAny_bind (wpAny_holding (wpAny_truthy_bool ?_))
    refine wpAny_bind (wpAny_letGo (wpAny_pure ?_))
    cases hb : bt (j + 1) (argBest bt j) with
    | true =>
      simp only [if_true]
      refine wpAny_bind ?_
      refine wpAny_updateSeq eB' rfl (wpAny_bind (wpAny_letGo ?_))
      rw [nm]
      refine wpAny_pure ⟨plainId_quiet F.plain_max_loop _, ih (j + 1) _ v _ (by omega) more (Z.frame _ _ _ sx' fun b h1 o e => ?_) (by simp only [argBest, hb, if_true]; exact av) (Heap.get?_update_self _ eB' rfl)
        fun v' g' t'' av' kp' => ?_⟩
      · exact (Heap.get?_update_other _ _ (fun z : B = b => nB (by rw [z]; exact h1))).trans e
      · exact fin v' g' t'' av' fun b o h1 h2 e => kp' b o h1 h2 ((Heap.get?_update_other _ _ (Ne.symm h2)).trans (kp b o h1 e))
    | false =>
      simp only [Bool.false_eq_true, if_false]
      refine wpAny_bind (wpAny_letGo ?_)
      rw [nm]
      refine wpAny_pure ⟨plainId_quiet F.plain_max_loop _, ih (j + 1) _ best c (by omega) more sx' (by simp only [argBest, hb, Bool.false_eq_true, if_false]; exact ab) eB' fun v' g' t'' av' kp' => ?_⟩
      exact fin v' g' t'' av' fun b o h1 h2 e => kp' b o h1 h2 (kp b o h1 e)
theorem max_go_kw1 (d : Value) (Z : Walks prog w A.in1 J fo wo len At Sx) (bt : Nat → Nat → Bool) (cm : CmpOf prog w A.in1 .Gt At bt) (B : Addr) (nB : B ∉ fo) {s : Shared} {c : Nat} (sx : Sx 0 s.heap)
    (eB : s.heap.get? B = some { cls := .type "list", dict := none, data := .seq #[] c, slots := #[] })
    (fin : ∀ v g t', (len = 0 → v = d) → (0 < len → At (argBest bt (len - 1)) v) → (∀ b o, b ∉ wo → b ≠ B → s.heap.get? b = some o → g.get? b = some o) → R (.ok (.ret v)) { s with heap := g, toks := t' }) :
    codeAny (model prog w) A (.builtin "max.loop" ⟨[.ref J, .none, .ref B], [("default", d)]⟩) R s := by
  have nW : B ∉ wo := fun z => nB (Z.sub _ z)
  have nm : (toString "max" ++ toString ".loop" : String) = "max.loop" := by decide
  refine codeAny_builtin F.entry_max_loop ?_
  rw [Around.under_plainId F.plain_max_loop _]
  show wpAny _ _ (seqItems? (.ref B) >>= _) _ _ _
  refine wpAny_bind (wpAny_seqItems eB rfl ?_)
  show wpAny _ _ (tryCatch (pyNext (.ref J)) _ >>= _) _ _ _
  by_cases hl : len = 0
  · refine wpAny_bind (wpAny_tryCatch (Z.done s _ _ (hl ▸ sx) fun g t' kp => ?_))
    refine wpAny_bind (wpAny_rule (wpAny_pure ?_))
    exact fin d g t' (fun _ => rfl) (fun z => by omega) fun b o h1 _ e => kp b o h1 e
  · refine wpAny_bind (wpAny_tryCatch (Z.item 0 s _ _ (by omega) sx fun v g t' av sx' kp => ?_))
    have eB' := kp B _ nW eB
    show wpAny _ _ (updateSeq B (fun _ => #[v, v]) >>= _) _ _ _
    refine wpAny_bind ?_
    refine wpAny_updateSeq eB' rfl ?_
    rw [nm]
    refine wpAny_pure ⟨plainId_quiet F.plain_max_loop _, max_go_kw [("default", d)] Z bt cm B nB _ 0 _ v _ rfl (by omega) (Z.frame _ _ _ sx' fun b h1 o e => ?_) av (Heap.get?_update_self _ eB' rfl) fun v' g' t'' av' kp' => ?_⟩
    · exact (Heap.get?_update_other _ _ (fun z : B = b => nB (by rw [z]; exact h1))).trans e
    · exact fin v' g' t'' (fun z => by omega) (fun _ => av') fun b o h1 h2 e => kp' b o h1 h2 ((Heap.get?_update_other _ _ (Ne.symm h2)).trans (kp b o h1 e))
theorem max_args_d (a d : Value) : argsOk "max" ⟨[a], [("default", d)]⟩ := by unfold argsOk; kernel_rfl
/-- max(xs, default=d) over a list -/
theorem max_default {E : Value → Shared → Prop} {s : Shared} {a : Addr} {its : Array Value} {d : Value} {Q : Value → Shared → Prop} (hh : A.handled = none) (hl : s.heap.IsList a its) (bt : Nat → Nat → Bool)
    (cm : CmpOf prog w A.in1 .Gt (fun i v => its[i]? = some v) bt)
    (fin : ∀ v g t', (its.size = 0 → v = d) → (0 < its.size → its[argBest bt (its.size - 1)]? = some v) → (∀ b o, s.heap.get? b = some o → g.get? b = some o) → Q v { s with heap := g, toks := t' }) :
    wpAny (model prog w) A (call (.builtin "max") [.ref a] [("default", d)]) Q E s := by
  have nm : (toString "max" ++ toString ".loop" : String) = "max.loop" := by decide
  refine wpAny_call (codeAny_call_builtin F.plain_max F.entry_max ?_)
  have body : wpAny (model prog w) A.in1 (Builtin.«max» ⟨[.ref a], [("default", d)]⟩) (fun fin s' => match fin with
      | .done f => (match (Except.ok f : Result) with | .ok (.ret v) => Q v s' | .ok _ => False | .error e => E e s')
      | .again c' => c'.quiet = true ∧ codeAny (model prog w) A c' (fun r s' => match r with | .ok (.ret v) => Q v s' | .ok _ => False | .error e => E e s') s') E s := by
    show wpAny _ A.in1 (Builtin.Builtins.bindParams "max" ["key", "default"] 0 ⟨[], [("default", d)]⟩ >>= _) _ _ s
    refine wpAny_bind (wpAny_of_eq (show Builtin.Builtins.bindParams "max" ["key", "default"] 0 ⟨[], [("default", d)]⟩ = pure [none, some d] from rfl) ?_)
    refine wpAny_bind (wpAny_pure ?_)
    refine wpAny_bind (wpAny_pyIter_list hl ?_)
    refine wpAny_bind (wpAny_newObj_type ?_)
    rw [nm]
    obtain ⟨o, ho, _⟩ := id hl
    have lt := Heap.lt_size ho
    have sz : (s.heap.push { cls := .type "list_iterator", data := .fields #[.ref a, .int 0 0] }).objs.size = s.heap.objs.size + 1 := Heap.size_push _ _
    have kp : ∀ b o', s.heap.get? b = some o' → ((s.heap.push { cls := .type "list_iterator", data := .fields #[.ref a, .int 0 0] }).push { cls := .type "list", dict := none, data := .seq ([] : List Value).toArray }).get? b = some o' :=
      fun b o' e => Heap.get?_push_of_some _ (Heap.get?_push_of_some _ e)
    refine wpAny_pure ⟨plainId_quiet F.plain_max_loop _, max_go_kw1 d (Walks.list (A := A.in1) hh s.heap.objs.size a (Nat.ne_of_lt lt) its) bt cm _ ?_
      ⟨⟨_, Heap.get?_push_of_some _ (Heap.get?_push_size _ rfl), rfl, rfl⟩, hl.at fun o' e => kp a o' e⟩ (Heap.get?_push_size _ rfl) fun v g t' h1 h2 h3 => ?_⟩
    · show (s.heap.push _).objs.size ∉ [s.heap.objs.size, a]
      rw [sz]
      intro z
      rcases List.mem_cons.mp z with z | z
      · exact Nat.succ_ne_self _ z
      · have z' := List.mem_singleton.mp z
        rw [← z'] at lt
        exact absurd lt (Nat.not_lt.mpr (Nat.le_succ _))
    · refine fin v g t' h1 h2 fun b o' e => h3 b o' ?_ ?_ (kp b o' e)
      · intro z
        exact absurd (List.mem_singleton.mp z) (Nat.ne_of_lt (Heap.lt_size e))
      · have := Heap.lt_size e
        show b ≠ (s.heap.push _).objs.size
        rw [sz]
        exact Nat.ne_of_lt (Nat.lt_succ_of_lt this)
  simp only [checkBuiltinCall, F.kind_max]
  cases hsig : Manifest.signature? "max" with
  | none => exact wpAny_pure body
  | some sig =>
    have ha' : Bind.checkArgs "max" sig ⟨[.ref a], [("default", d)]⟩ = pure () := by
      have := max_args_d (.ref a) d
      simpa only [argsOk, hsig] using this
    simp only [ha']
    exact wpAny_pure body
end

section
variable {prog : Program} {w : World} {A : Around} {R : Result → Shared → Prop} {J : Addr} {fo wo : List Addr} {len : Nat} {At : Nat → Value → Prop} {Sx : Nat → Heap → Prop}
theorem min_go_kw (kw : List (Str × Value)) (Z : Walks prog w A.in1 J fo wo len At Sx) (bt : Nat → Nat → Bool) (cm : CmpOf prog w A.in1 .Lt At bt) (B : Addr) (nB : B ∉ fo) :
    ∀ (k j : Nat) (s : Shared) (best : Value) (c : Nat), len - (j + 1) = k → j + 1 ≤ len → Sx (j + 1) s.heap → At (argBest bt j) best →
    s.heap.get? B = some { cls := .type "list", dict := none, data := .seq #[best, best] c, slots := #[] } →
    (∀ v g t', At (argBest bt (len - 1)) v → (∀ b o, b ∉ wo → b ≠ B → s.heap.get? b = some o → g.get? b = some o) → R (.ok (.ret v)) { s with heap := g, toks := t' }) →
    codeAny (model prog w) A (.builtin "min.loop" ⟨[.ref J, .none, .ref B], kw⟩) R s := by
  have nW : B ∉ wo := fun z => nB (Z.sub _ z)
  have nm : (toString "min" ++ toString ".loop" : String) = "min.loop" := by decide
  intro k
  induction k with
  | zero =>
    intro j s best c e0 e1 sx ab eB fin
    have last : j + 1 = len := by omega
    refine codeAny_builtin F.entry_min_loop ?_
    rw [Around.under_plainId F.plain_min_loop _]
    show wpAny _ _ (seqItems? (.ref B) >>= _) _ _ _
    refine wpAny_bind (wpAny_seqItems eB rfl ?_)
    show wpAny _ _ (tryCatch (pyNext (.ref J)) _ >>= _) _ _ _
    refine wpAny_bind (wpAny_tryCatch (Z.done s _ _ (last ▸ sx) fun g t' kp => ?_))
    have eB' := kp B _ nW eB
    show wpAny _ _ (updateSeq B (fun _ => #[]) >>= _) _ _ _
    refine wpAny_bind ?_
    refine wpAny_updateSeq eB' rfl (wpAny_bind (wpAny_letGo (wpAny_pure ?_)))
    exact fin best _ t' (by rw [← last]; exact ab) fun b o h1 h2 e => (Heap.get?_update_other _ _ (Ne.symm h2)).trans (kp b o h1 e)
  | succ k ih =>
    intro j s best c e0 e1 sx ab eB fin
    have more : j + 1 < len := by omega
    refine codeAny_builtin F.entry_min_loop ?_
    rw [Around.under_plainId F.plain_min_loop _]
    show wpAny _ _ (seqItems? (.ref B) >>= _) _ _ _
    refine wpAny_bind (wpAny_seqItems eB rfl ?_)
    show wpAny _ _ (tryCatch (pyNext (.ref J)) _ >>= _) _ _ _
    refine wpAny_bind (wpAny_tryCatch (Z.item (j + 1) s _ _ more sx fun v g t' av sx' kp => ?_))
    have eB' := kp B _ nW eB
    show wpAny _ _ (tryCatch (holding [v, v] (richCompare .Lt v best >>= _)) _ >>= _) _ _ _
    refine wpAny_bind (wpAny_tryCatch (wpAny_holding (wpAny_bind (cm (j + 1) (argBest bt j) v best _ _ _ av ab ?_))))
    refine wpAny_bind (wpAny_holding (wpAny_truthy_bool ?_))
    refine wpAny_bind (wpAny_letGo (wpAny_pure ?_))
    cases hb : bt (j + 1) (argBest bt j) with
    | true =>
      simp only [if_true]
      refine wpAny_bind ?_
      refine wpAny_updateSeq eB' rfl (wpAny_bind (wpAny_letGo ?_))
      rw [nm]
      refine wpAny_pure ⟨plainId_quiet F.plain_min_loop _, ih (j + 1) _ v _ (by omega) more (Z.frame _ _ _ sx' fun b h1 o e => ?_) (by simp only [argBest, hb, if_true]; exact av) (Heap.get?_update_self _ eB' rfl)
        fun v' g' t'' av' kp' => ?_⟩
      · exact (Heap.get?_update_other _ _ (fun z : B = b => nB (by rw [z]; exact h1))).trans e
      · exact fin v' g' t'' av' fun b o h1 h2 e => kp' b o h1 h2 ((Heap.get?_update_other _ _ (Ne.symm h2)).trans (kp b o h1 e))
    | false =>
      simp only [Bool.false_eq_true, if_false]
      refine wpAny_bind (wpAny_letGo ?_)
      rw [nm]
      refine wpAny_pure ⟨plainId_quiet F.plain_min_loop _, ih (j + 1) _ best c (by omega) more sx' (by simp only [argBest, hb, Bool.false_eq_true, if_false]; exact ab) eB' fun v' g' t'' av' kp' => ?_⟩
      exact fin v' g' t'' av' fun b o h1 h2 e => kp' b o h1 h2 (kp b o h1 e)
theorem min_go_kw1 (d : Value) (Z : Walks prog w A.in1 J fo wo len At Sx) (bt : Nat → Nat → Bool) (cm : CmpOf prog w A.in1 .Lt At bt) (B : Addr) (nB : B ∉ fo) {s : Shared} {c : Nat} (sx : Sx 0 s.heap)
    (eB : s.heap.get? B = some { cls := .type "list", dict := none, data := .seq #[] c, slots := #[] })
    (fin : ∀ v g t', (len = 0 → v = d) → (0 < len → At (argBest bt (len - 1)) v) → (∀ b o, b ∉ wo → b ≠ B → s.heap.get? b = some o → g.get? b = some o) → R (.ok (.ret v)) { s with heap := g, toks := t' }) :
    codeAny (model prog w) A (.builtin "min.loop" ⟨[.ref J, .none, .ref B], [("default", d)]⟩) R s := by
  have nW : B ∉ wo := fun z => nB (Z.sub _ z)
  have nm : (toString "min" ++ toString ".loop" : String) = "min.loop" := by decide
  refine codeAny_builtin F.entry_min_loop ?_
  rw [Around.under_plainId F.plain_min_loop _]
  show wpAny _ _ (seqItems? (.ref B) >>= _) _ _ _
  refine wpAny_bind (wpAny_seqItems eB rfl ?_)
  show wpAny _ _ (tryCatch (pyNext (.ref J)) _ >>= _) _ _ _
  by_cases hl : len = 0
  · refine wpAny_bind (wpAny_tryCatch (Z.done s _ _ (hl ▸ sx) fun g t' kp => ?_))
    refine wpAny_bind (wpAny_rule (wpAny_pure ?_))
    exact fin d g t' (fun _ => rfl) (fun z => by omega) fun b o h1 _ e => kp b o h1 e
  · refine wpAny_bind (wpAny_tryCatch (Z.item 0 s _ _ (by omega) sx fun v g t' av sx' kp => ?_))
    have eB' := kp B _ nW eB
    show wpAny _ _ (updateSeq B (fun _ => #[v, v]) >>= _) _ _ _
    refine wpAny_bind ?_
    refine wpAny_updateSeq eB' rfl ?_
    rw [nm]
    refine wpAny_pure ⟨plainId_quiet F.plain_min_loop _, min_go_kw [("default", d)] Z bt cm B nB _ 0 _ v _ rfl (by omega) (Z.frame _ _ _ sx' fun b h1 o e => ?_) av (Heap.get?_update_self _ eB' rfl) fun v' g' t'' av' kp' => ?_⟩
    · exact (Heap.get?_update_other _ _ (fun z : B = b => nB (by rw [z]; exact h1))).trans e
    · exact fin v' g' t'' (fun z => by omega) (fun _ => av') fun b o h1 h2 e => kp' b o h1 h2 ((Heap.get?_update_other _ _ (Ne.symm h2)).trans (kp b o h1 e))
theorem min_args_d (a d : Value) : argsOk "min" ⟨[a], [("default", d)]⟩ := by unfold argsOk; kernel_rfl
/-- min(xs, default=d) over a list -/
theorem min_default {E : Value → Shared → Prop} {s : Shared} {a : Addr} {its : Array Value} {d : Value} {Q : Value → Shared → Prop} (hh : A.handled = none) (hl : s.heap.IsList a its) (bt : Nat → Nat → Bool)
    (cm : CmpOf prog w A.in1 .Lt (fun i v => its[i]? = some v) bt)
    (fin : ∀ v g t', (its.size = 0 → v = d) → (0 < its.size → its[argBest bt (its.size - 1)]? = some v) → (∀ b o, s.heap.get? b = some o → g.get? b = some o) → Q v { s with heap := g, toks := t' }) :
    wpAny (model prog w) A (call (.builtin "min") [.ref a] [("default", d)]) Q E s := by
  have nm : (toString "min" ++ toString ".loop" : String) = "min.loop" := by decide
  refine wpAny_call (codeAny_call_builtin F.plain_min F.entry_min ?_)
  have body : wpAny (model prog w) A.in1 (Builtin.«min» ⟨[.ref a], [("default", d)]⟩) (fun fin s' => match fin with
      | .done f => (match (Except.ok f : Result) with | .ok (.ret v) => Q v s' | .ok _ => False | .error e => E e s')
      | .again c' => c'.quiet = true ∧ codeAny (model prog w) A c' (fun r s' => match r with | .ok (.ret v) => Q v s' | .ok _ => False | .error e => E e s') s') E s := by
    show wpAny _ A.in1 (Builtin.Builtins.bindParams "min" ["key", "default"] 0 ⟨[], [("default", d)]⟩ >>= _) _ _ s
    refine wpAny_bind (wpAny_of_eq (show Builtin.Builtins.bindParams "min" ["key", "default"] 0 ⟨[], [("default", d)]⟩ = pure [none, some d] from rfl) ?_)
    refine wpAny_bind (wpAny_pure ?_)
    refine wpAny_bind (wpAny_pyIter_list hl ?_)
    refine wpAny_bind (wpAny_newObj_type ?_)
    rw [nm]
    obtain ⟨o, ho, _⟩ := id hl
    have lt := Heap.lt_size ho
    have sz : (s.heap.push { cls := .type "list_iterator", data := .fields #[.ref a, .int 0 0] }).objs.size = s.heap.objs.size + 1 := Heap.size_push _ _
    have kp : ∀ b o', s.heap.get? b = some o' → ((s.heap.push { cls := .type "list_iterator", data := .fields #[.ref a, .int 0 0] }).push { cls := .type "list", dict := none, data := .seq ([] : List Value).toArray }).get? b = some o' :=
      fun b o' e => Heap.get?_push_of_some _ (Heap.get?_push_of_some _ e)
    refine wpAny_pure ⟨plainId_quiet F.plain_min_loop _, min_go_kw1 d (Walks.list (A := A.in1) hh s.heap.objs.size a (Nat.ne_of_lt lt) its) bt cm _ ?_
      ⟨⟨_, Heap.get?_push_of_some _ (Heap.get?_push_size _ rfl), rfl, rfl⟩, hl.at fun o' e => kp a o' e⟩ (Heap.get?_push_size _ rfl) fun v g t' h1 h2 h3 => ?_⟩
    · show (s.heap.push _).objs.size ∉ [s.heap.objs.size, a]
      rw [sz]
      intro z
      rcases List.mem_cons.mp z with z | z
      · exact Nat.succ_ne_self _ z
      · have z' := List.mem_singleton.mp z
        rw [← z'] at lt
        exact absurd lt (Nat.not_lt.mpr (Nat.le_succ _))
    · refine fin v g t' h1 h2 fun b o' e => h3 b o' ?_ ?_ (kp b o' e)
      · intro z
        exact absurd (List.mem_singleton.mp z) (Nat.ne_of_lt (Heap.lt_size e))
      · have := Heap.lt_size e
        show b ≠ (s.heap.push _).objs.size
        rw [sz]
        exact Nat.ne_of_lt (Nat.lt_succ_of_lt this)
  simp only [checkBuiltinCall, F.kind_min]
  cases hsig : Manifest.signature? "min" with
  | none => exact wpAny_pure body
  | some sig =>
    have ha' : Bind.checkArgs "min" sig ⟨[.ref a], [("default", d)]⟩ = pure () := by
      have := min_args_d (.ref a) d
      simpa only [argsOk, hsig] using this
    simp only [ha']
    exact wpAny_pure body
end

/-! ### over ints -/
def bestOf (lt : Int → Int → Bool) : Int → List Int → Int
  | b, [] => b
  | b, x :: r => bestOf lt (if lt x b then x else b) r
theorem argBest_bestOf (lt : Int → Int → Bool) (ns : List Int) (d0 : Int) : ∀ k, k < ns.length →
    ns.getD (argBest (fun i j => lt (ns.getD i d0) (ns.getD j d0)) k) d0 = bestOf lt (ns.getD 0 d0) ((ns.drop 1).take k) ∧ argBest (fun i j => lt (ns.getD i d0) (ns.getD j d0)) k < ns.length := by
  have snoc : ∀ (l : List Int) (b x : Int), bestOf lt b (l ++ [x]) = if lt x (bestOf lt b l) then x else bestOf lt b l := by
    intro l
    induction l with
    | nil => intro b x; rfl
    | cons y r ih => intro b x; exact ih _ x
  intro k
  induction k with
  | zero => intro h; exact ⟨rfl, h⟩
  | succ k ih =>
    intro h
    obtain ⟨i1, i2⟩ := ih (by omega)
    have e : (ns.drop 1).take (k + 1) = (ns.drop 1).take k ++ [ns.getD (k + 1) d0] := by
      rw [List.take_succ, List.getElem?_drop, List.getElem?_eq_getElem (by omega)]
      have : (1 + k) = k + 1 := by omega
      simp [this, List.getD_eq_getElem?_getD, List.getElem?_eq_getElem h]
    rw [e, snoc, ← i1]
    show ns.getD (if lt (ns.getD (k + 1) d0) (ns.getD (argBest _ k) d0) = true then k + 1 else argBest _ k) d0 = _ ∧ (if lt (ns.getD (k + 1) d0) (ns.getD (argBest _ k) d0) = true then k + 1 else argBest _ k) < _
    by_cases hb : lt (ns.getD (k + 1) d0) (ns.getD (argBest (fun i j => lt (ns.getD i d0) (ns.getD j d0)) k) d0) = true
    · rw [if_pos hb, if_pos hb]; exact ⟨rfl, h⟩
    · rw [if_neg hb, if_neg hb]; exact ⟨rfl, i2⟩
/-- the greatest, the least of a list, or else d -/
def bestD (lt : Int → Int → Bool) (ns : List Int) (d : V) : V := match ns with
  | [] => d
  | x :: r => .int (bestOf lt x r)
theorem vals_int_at {ns : List Int} {its : List Value} (r : Vals (ns.map V.int) its) {i : Nat} {v : Value} (h : its.toArray[i]? = some v) : ∃ t, v = Value.int (ns.getD i 0) t := by
  have hi : its[i]? = some v := by simpa using h
  have hl : i < its.length := (List.getElem?_eq_some_iff.mp hi).1
  have ll := r.length
  rw [List.length_map] at ll
  have e : (ns.map V.int)[i]? = some (.int (ns.getD i 0)) := by
    rw [List.getElem?_map, List.getElem?_eq_getElem (by omega), List.getD_eq_getElem?_getD, List.getElem?_eq_getElem (by omega)]
    rfl
  obtain ⟨u, h1, h2⟩ := Vals.get r e
  rw [hi] at h1
  cases h1
  exact h2
section
variable {X : Cx}
/-- a call of a built-in with keywords, by values -/
def CallKR (X : Cx) (f : Value) (ks : List Str) (r : List V → List V → Hp → VK → Prop) : Prop :=
  ∀ (pins : List (Addr × Obj)) (s : Shared) (σ : St) (H : Hp) (xs zs : List V) (us ws : List Value) (Q : VK), Inv X pins σ H s → Vals xs us → Vals zs ws → r xs zs H Q → wpAny (model X.prog X.w) X.A (call f us (ks.zip ws)) (EP X pins σ Q) X.xe s
def tCBK (r : List V → List V → Hp → VK → Prop) (t tk : TA) : TE := fun σ H Q => t σ H fun vs H1 => tk σ H1 fun zs H2 => r vs zs H2 Q
theorem pe_callBK {x : Str} {id : String} {ks : List Str} {r : List V → List V → Hp → VK → Prop} {e : Expr} {es : List Expr} {kws : List Keyword} {t tk : TA} {p pos : Pos} (hc : CallKR X (.builtin id) ks r) (hg : Gl X x) (hm : X.mg x = none) (hv : bootBuiltins x = some (.builtin id)) (ha : PA X (e :: es) t) (hkw : PK X kws tk)
    (hks : (backToKw pos (keywordEach kws X.env)).filterMap (·.1) = ks := by rfl) (hn : x ≠ "__name__" := by decide) (hdb : (x == ("__debug__" : Str)) = false := by decide)
    (he : backTo pos (starEach (e :: es) X.env) = (false, eval e X.env) :: backTo pos (starEach es X.env) := by rfl) (hpl : (backTo pos (starEach (e :: es) X.env)).any (·.1) = false := by rfl)
    (hall : (backToKw pos (keywordEach kws X.env)).all (·.1.isSome) = true := by rfl) (hkn : (backToKw pos (keywordEach kws X.env)).any (·.1.isNone) = false := by rfl) :
    PE X (.Call (.Name x p) (e :: es) kws pos) (tCBK r t tk) := by
  intro pins s σ H Q I h
  refine wpAny_Call_Name_kw (ld_blt I hg hm hv ?_ hn hdb)
  refine callWith_kw (thn (ha pos pins s σ H _ I h) fun us s1 ⟨vs, H1, I1, r1, q1⟩ => ?_) he hpl hall hkn
  refine thn (hkw pos pins s1 σ H1 _ I1 q1) fun ws s2 ⟨zs, H2, I2, r2, q2⟩ => ?_
  rw [hks]
  exact hc pins s2 σ H2 vs zs us ws Q I2 r1 r2 q2
theorem call_maxd (hc : X.calm = true) : CallKR X (.builtin "max") ["default"] (fun xs zs H Q => ∃ a ns d, xs = [.ref a] ∧ zs = [d] ∧ SqL X.K H a (ns.map V.int) ∧ Q (bestD (fun i j => decide (j < i)) ns d) H) := by
  intro pins s σ H xs zs us ws Q I r1 r2 h
  obtain ⟨a, ns, d, rfl, rfl, hq, q⟩ := h
  obtain ⟨u, rfl, ru⟩ := vals1 r1
  obtain ⟨z, rfl, rz⟩ := vals1 r2
  cases ru
  obtain ⟨its, rv, p, _⟩ := I.list hq
  have ll := rv.length
  rw [List.length_map] at ll
  refine max_default (I.ok.hd hc) p.isList (fun i j => decide (ns.getD j 0 < ns.getD i 0)) (fun i j vi vj s' Q' E' hi hj q' => ?_) fun v g t' h1 h2 h3 => ?_
  · obtain ⟨t1, rfl⟩ := vals_int_at rv hi
    obtain ⟨t2, rfl⟩ := vals_int_at rv hj
    exact gt_int q'
  · refine ⟨_, H, I.kept h3, ?_, q⟩
    cases ns with
    | nil =>
      have e : its.toArray.size = 0 := by simp; simpa using ll.symm
      rw [h1 e]
      exact rz
    | cons x rr =>
      simp only [List.length_cons] at ll
      have e : 0 < its.toArray.size := by simp; omega
      have hv := h2 e
      obtain ⟨t, rfl⟩ := vals_int_at rv hv
      have ee : its.toArray.size - 1 = rr.length := by simp; omega
      rw [ee]
      have := (argBest_bestOf (fun i j => decide (j < i)) (x :: rr) 0 rr.length (by simp)).1
      have e2 : ((x :: rr).drop 1).take rr.length = rr := by simp
      rw [e2] at this
      refine ⟨t, ?_⟩
      rw [this]
      rfl
theorem call_mind (hc : X.calm = true) : CallKR X (.builtin "min") ["default"] (fun xs zs H Q => ∃ a ns d, xs = [.ref a] ∧ zs = [d] ∧ SqL X.K H a (ns.map V.int) ∧ Q (bestD (fun i j => decide (i < j)) ns d) H) := by
  intro pins s σ H xs zs us ws Q I r1 r2 h
  obtain ⟨a, ns, d, rfl, rfl, hq, q⟩ := h
  obtain ⟨u, rfl, ru⟩ := vals1 r1
  obtain ⟨z, rfl, rz⟩ := vals1 r2
  cases ru
  obtain ⟨its, rv, p, _⟩ := I.list hq
  have ll := rv.length
  rw [List.length_map] at ll
  refine min_default (I.ok.hd hc) p.isList (fun i j => decide (ns.getD i 0 < ns.getD j 0)) (fun i j vi vj s' Q' E' hi hj q' => ?_) fun v g t' h1 h2 h3 => ?_
  · obtain ⟨t1, rfl⟩ := vals_int_at rv hi
    obtain ⟨t2, rfl⟩ := vals_int_at rv hj
    exact lt_int q'
  · refine ⟨_, H, I.kept h3, ?_, q⟩
    cases ns with
    | nil =>
      have e : its.toArray.size = 0 := by simp; simpa using ll.symm
      rw [h1 e]
      exact rz
    | cons x rr =>
      simp only [List.length_cons] at ll
      have e : 0 < its.toArray.size := by simp; omega
      have hv := h2 e
      obtain ⟨t, rfl⟩ := vals_int_at rv hv
      have ee : its.toArray.size - 1 = rr.length := by simp; omega
      rw [ee]
      have := (argBest_bestOf (fun i j => decide (i < j)) (x :: rr) 0 rr.length (by simp)).1
      have e2 : ((x :: rr).drop 1).take rr.length = rr := by simp
      rw [e2] at this
      refine ⟨t, ?_⟩
      rw [this]
      rfl
end
end L2

set_option Elab.async false
set_option linter.all false
set_option maxRecDepth 100000
set_option exponentiation.threshold 2000
namespace L2
open PySem PySem.Spec PyProof.Rows
section
variable {X : Cx} {pins : List (Addr × Obj)} {σ : St} {H : Hp} {s : Shared}
theorem rcAt_rep (I : Inv X pins σ H s) (A : Around) (d e : PD) (v w : V) (u y : Value) (h : Rep X.K H d v) (h' : Rep X.K H e w) (r : RelV v u) (r' : RelV w y) (z : A.units + depthD d < cLine) : SeqAt.RcAt A s u y (pyEq d e) := by
  cases d with
  | non =>
    rw [Rep] at h; subst h; cases r
    cases e with
    | non =>
      rw [Rep] at h'
      subst h'; cases r'
      rw [pyEq]; exact SeqAt.RcAt.none_none
    | bl b =>
      rw [Rep] at h'
      subst h'; cases r'
      exact SeqAt.RcAt.none_bool b
    | int b =>
      rw [Rep] at h'
      subst h'; obtain ⟨t, rfl⟩ := r'
      exact SeqAt.RcAt.none_int b t
    | str b =>
      rw [Rep] at h'
      subst h'; obtain ⟨t, rfl⟩ := r'
      exact SeqAt.RcAt.none_str b t
    | lst es =>
      rw [Rep] at h'
      obtain ⟨b, ys, rfl, q', qs'⟩ := h'; cases r'
      obtain ⟨its', rv', p', _⟩ := I.list q'
      exact SeqAt.RcAt.none_list p'.isList (by omega)
    | tup es =>
      rw [Rep] at h'
      obtain ⟨b, ys, rfl, q', qs'⟩ := h'; cases r'
      obtain ⟨its', rv', p', _⟩ := I.tuple q'
      exact SeqAt.RcAt.none_tuple p' (by omega)
  | bl c =>
    rw [Rep] at h; subst h; cases r
    cases e with
    | non =>
      rw [Rep] at h'
      subst h'; cases r'
      exact SeqAt.RcAt.bool_none c
    | bl b =>
      rw [Rep] at h'
      subst h'; cases r'
      exact SeqAt.RcAt.bool_bool c b
    | int b =>
      rw [Rep] at h'
      subst h'; obtain ⟨t, rfl⟩ := r'
      exact SeqAt.RcAt.bool_int c b t
    | str b =>
      rw [Rep] at h'
      subst h'; obtain ⟨t, rfl⟩ := r'
      exact SeqAt.RcAt.bool_str c b t
    | lst es =>
      rw [Rep] at h'
      obtain ⟨b, ys, rfl, q', qs'⟩ := h'; cases r'
      obtain ⟨its', rv', p', _⟩ := I.list q'
      exact SeqAt.RcAt.bool_list c p'.isList (by omega)
    | tup es =>
      rw [Rep] at h'
      obtain ⟨b, ys, rfl, q', qs'⟩ := h'; cases r'
      obtain ⟨its', rv', p', _⟩ := I.tuple q'
      exact SeqAt.RcAt.bool_tuple c p' (by omega)
  | int c =>
    rw [Rep] at h; subst h; obtain ⟨tc, rfl⟩ := r
    cases e with
    | non =>
      rw [Rep] at h'
      subst h'; cases r'
      exact SeqAt.RcAt.int_none c tc
    | bl b =>
      rw [Rep] at h'
      subst h'; cases r'
      exact SeqAt.RcAt.int_bool c tc b
    | int b =>
      rw [Rep] at h'
      subst h'; obtain ⟨t, rfl⟩ := r'
      exact SeqAt.RcAt.int_int c tc b t
    | str b =>
      rw [Rep] at h'
      subst h'; obtain ⟨t, rfl⟩ := r'
      exact SeqAt.RcAt.int_str c tc b t
    | lst es =>
      rw [Rep] at h'
      obtain ⟨b, ys, rfl, q', qs'⟩ := h'; cases r'
      obtain ⟨its', rv', p', _⟩ := I.list q'
      exact SeqAt.RcAt.int_list c tc p'.isList (by omega)
    | tup es =>
      rw [Rep] at h'
      obtain ⟨b, ys, rfl, q', qs'⟩ := h'; cases r'
      obtain ⟨its', rv', p', _⟩ := I.tuple q'
      exact SeqAt.RcAt.int_tuple c tc p' (by omega)
  | str c =>
    rw [Rep] at h; subst h; obtain ⟨tc, rfl⟩ := r
    cases e with
    | non =>
      rw [Rep] at h'
      subst h'; cases r'
      exact SeqAt.RcAt.str_none c tc
    | bl b =>
      rw [Rep] at h'
      subst h'; cases r'
      exact SeqAt.RcAt.str_bool c tc b
    | int b =>
      rw [Rep] at h'
      subst h'; obtain ⟨t, rfl⟩ := r'
      exact SeqAt.RcAt.str_int c tc b t
    | str b =>
      rw [Rep] at h'
      subst h'; obtain ⟨t, rfl⟩ := r'
      exact SeqAt.RcAt.str_str c tc b t
    | lst es =>
      rw [Rep] at h'
      obtain ⟨b, ys, rfl, q', qs'⟩ := h'; cases r'
      obtain ⟨its', rv', p', _⟩ := I.list q'
      exact SeqAt.RcAt.str_list c tc p'.isList (by omega)
    | tup es =>
      rw [Rep] at h'
      obtain ⟨b, ys, rfl, q', qs'⟩ := h'; cases r'
      obtain ⟨its', rv', p', _⟩ := I.tuple q'
      exact SeqAt.RcAt.str_tuple c tc p' (by omega)
  | lst ds =>
    rw [Rep] at h; obtain ⟨a, xs, rfl, q, qs⟩ := h; cases r
    obtain ⟨its, rv, p, _⟩ := I.list q
    cases e with
    | non =>
      rw [Rep] at h'
      subst h'; cases r'
      exact SeqAt.RcAt.list_none p.isList (by omega)
    | bl b =>
      rw [Rep] at h'
      subst h'; cases r'
      exact SeqAt.RcAt.list_bool b p.isList (by omega)
    | int b =>
      rw [Rep] at h'
      subst h'; obtain ⟨t, rfl⟩ := r'
      exact SeqAt.RcAt.list_int b t p.isList (by omega)
    | str b =>
      rw [Rep] at h'
      subst h'; obtain ⟨t, rfl⟩ := r'
      exact SeqAt.RcAt.list_str b t p.isList (by omega)
    | lst es =>
      rw [Rep] at h'
      obtain ⟨b, ys, rfl, q', qs'⟩ := h'; cases r'
      obtain ⟨its', rv', p', _⟩ := I.list q'
      rw [pyEq]
      rw [depthD] at z
      have l1 := qs.length
      have l2 := qs'.length
      have l3 := rv.length
      have l4 := rv'.length
      by_cases hl : ds.length = es.length
      · rw [← pyEqs_range ds es hl]
        have := SeqAt.RcAt.lists (e := eqJ ds es) p.isList p'.isList (by simp; omega) (by omega) (fun j h1 h2 => ?_) (A := A)
        · simp only [List.size_toArray] at this
          rw [show ds.length = its.length by omega]
          exact this
        · have := eqAts_rep I A.in1 ds es xs ys its its' qs qs' rv rv' (by rw [Around.in1_units]; omega) j (by simpa using h1) (by simpa using h2)
          simpa using this
      · rw [pyEqs_len hl]
        exact SeqAt.RcAt.lists_lengths p.isList p'.isList (by simp; omega) (by omega)
    | tup es =>
      rw [Rep] at h'
      obtain ⟨b, ys, rfl, q', qs'⟩ := h'; cases r'
      obtain ⟨its', rv', p', _⟩ := I.tuple q'
      exact SeqAt.RcAt.list_tuple p.isList p' (by omega)
  | tup ds =>
    rw [Rep] at h; obtain ⟨a, xs, rfl, q, qs⟩ := h; cases r
    obtain ⟨its, rv, p, _⟩ := I.tuple q
    cases e with
    | non =>
      rw [Rep] at h'
      subst h'; cases r'
      exact SeqAt.RcAt.tuple_none p (by omega)
    | bl b =>
      rw [Rep] at h'
      subst h'; cases r'
      exact SeqAt.RcAt.tuple_bool b p (by omega)
    | int b =>
      rw [Rep] at h'
      subst h'; obtain ⟨t, rfl⟩ := r'
      exact SeqAt.RcAt.tuple_int b t p (by omega)
    | str b =>
      rw [Rep] at h'
      subst h'; obtain ⟨t, rfl⟩ := r'
      exact SeqAt.RcAt.tuple_str b t p (by omega)
    | lst es =>
      rw [Rep] at h'
      obtain ⟨b, ys, rfl, q', qs'⟩ := h'; cases r'
      obtain ⟨its', rv', p', _⟩ := I.list q'
      exact SeqAt.RcAt.tuple_list p p'.isList (by omega)
    | tup es =>
      rw [Rep] at h'
      obtain ⟨b, ys, rfl, q', qs'⟩ := h'; cases r'
      obtain ⟨its', rv', p', _⟩ := I.tuple q'
      rw [pyEq]
      rw [depthD] at z
      have l1 := qs.length
      have l2 := qs'.length
      have l3 := rv.length
      have l4 := rv'.length
      have := SeqAt.RcAt.tuples (e := eqJ ds es) p p' (by omega) (fun j h1 h2 => ?_) (A := A)
      · simp only [List.size_toArray] at this
        by_cases hl : ds.length = es.length
        · rw [← pyEqs_range ds es hl]
          rw [show min its.length its'.length = ds.length by omega, show (its.length == its'.length) = true by simp; omega, Bool.and_true] at this
          exact this
        · rw [pyEqs_len hl]
          rw [show (its.length == its'.length) = false by simp; omega, Bool.and_false] at this
          exact this
      · have := eqAts_rep I A.in1 ds es xs ys its its' qs qs' rv rv' (by rw [Around.in1_units]; omega) j (by simpa using h1) (by simpa using h2)
        simpa using this
theorem rcNeAt_rep (I : Inv X pins σ H s) (A : Around) (d e : PD) (v w : V) (u y : Value) (h : Rep X.K H d v) (h' : Rep X.K H e w) (r : RelV v u) (r' : RelV w y) (z : A.units + depthD d < cLine) : SeqAt.RcNeAt A s u y (!pyEq d e) := by
  cases d with
  | non =>
    rw [Rep] at h; subst h; cases r
    cases e with
    | non =>
      rw [Rep] at h'
      subst h'; cases r'
      rw [pyEq]; exact SeqAt.RcNeAt.none_none
    | bl b =>
      rw [Rep] at h'
      subst h'; cases r'
      exact SeqAt.RcNeAt.none_bool b
    | int b =>
      rw [Rep] at h'
      subst h'; obtain ⟨t, rfl⟩ := r'
      exact SeqAt.RcNeAt.none_int b t
    | str b =>
      rw [Rep] at h'
      subst h'; obtain ⟨t, rfl⟩ := r'
      exact SeqAt.RcNeAt.none_str b t
    | lst es =>
      rw [Rep] at h'
      obtain ⟨b, ys, rfl, q', qs'⟩ := h'; cases r'
      obtain ⟨its', rv', p', _⟩ := I.list q'
      exact SeqAt.RcNeAt.none_list p'.isList (by omega)
    | tup es =>
      rw [Rep] at h'
      obtain ⟨b, ys, rfl, q', qs'⟩ := h'; cases r'
      obtain ⟨its', rv', p', _⟩ := I.tuple q'
      exact SeqAt.RcNeAt.none_tuple p' (by omega)
  | bl c =>
    rw [Rep] at h; subst h; cases r
    cases e with
    | non =>
      rw [Rep] at h'
      subst h'; cases r'
      exact SeqAt.RcNeAt.bool_none c
    | bl b =>
      rw [Rep] at h'
      subst h'; cases r'
      exact SeqAt.RcNeAt.bool_bool c b
    | int b =>
      rw [Rep] at h'
      subst h'; obtain ⟨t, rfl⟩ := r'
      exact SeqAt.RcNeAt.bool_int c b t
    | str b =>
      rw [Rep] at h'
      subst h'; obtain ⟨t, rfl⟩ := r'
      exact SeqAt.RcNeAt.bool_str c b t
    | lst es =>
      rw [Rep] at h'
      obtain ⟨b, ys, rfl, q', qs'⟩ := h'; cases r'
      obtain ⟨its', rv', p', _⟩ := I.list q'
      exact SeqAt.RcNeAt.bool_list c p'.isList (by omega)
    | tup es =>
      rw [Rep] at h'
      obtain ⟨b, ys, rfl, q', qs'⟩ := h'; cases r'
      obtain ⟨its', rv', p', _⟩ := I.tuple q'
      exact SeqAt.RcNeAt.bool_tuple c p' (by omega)
  | int c =>
    rw [Rep] at h; subst h; obtain ⟨tc, rfl⟩ := r
    cases e with
    | non =>
      rw [Rep] at h'
      subst h'; cases r'
      exact SeqAt.RcNeAt.int_none c tc
    | bl b =>
      rw [Rep] at h'
      subst h'; cases r'
      exact SeqAt.RcNeAt.int_bool c tc b
    | int b =>
      rw [Rep] at h'
      subst h'; obtain ⟨t, rfl⟩ := r'
      exact SeqAt.RcNeAt.int_int c tc b t
    | str b =>
      rw [Rep] at h'
      subst h'; obtain ⟨t, rfl⟩ := r'
      exact SeqAt.RcNeAt.int_str c tc b t
    | lst es =>
      rw [Rep] at h'
      obtain ⟨b, ys, rfl, q', qs'⟩ := h'; cases r'
      obtain ⟨its', rv', p', _⟩ := I.list q'
      exact SeqAt.RcNeAt.int_list c tc p'.isList (by omega)
    | tup es =>
      rw [Rep] at h'
      obtain ⟨b, ys, rfl, q', qs'⟩ := h'; cases r'
      obtain ⟨its', rv', p', _⟩ := I.tuple q'
      exact SeqAt.RcNeAt.int_tuple c tc p' (by omega)
  | str c =>
    rw [Rep] at h; subst h; obtain ⟨tc, rfl⟩ := r
    cases e with
    | non =>
      rw [Rep] at h'
      subst h'; cases r'
      exact SeqAt.RcNeAt.str_none c tc
    | bl b =>
      rw [Rep] at h'
      subst h'; cases r'
      exact SeqAt.RcNeAt.str_bool c tc b
    | int b =>
      rw [Rep] at h'
      subst h'; obtain ⟨t, rfl⟩ := r'
      exact SeqAt.RcNeAt.str_int c tc b t
    | str b =>
      rw [Rep] at h'
      subst h'; obtain ⟨t, rfl⟩ := r'
      exact SeqAt.RcNeAt.str_str c tc b t
    | lst es =>
      rw [Rep] at h'
      obtain ⟨b, ys, rfl, q', qs'⟩ := h'; cases r'
      obtain ⟨its', rv', p', _⟩ := I.list q'
      exact SeqAt.RcNeAt.str_list c tc p'.isList (by omega)
    | tup es =>
      rw [Rep] at h'
      obtain ⟨b, ys, rfl, q', qs'⟩ := h'; cases r'
      obtain ⟨its', rv', p', _⟩ := I.tuple q'
      exact SeqAt.RcNeAt.str_tuple c tc p' (by omega)
  | lst ds =>
    rw [Rep] at h; obtain ⟨a, xs, rfl, q, qs⟩ := h; cases r
    obtain ⟨its, rv, p, _⟩ := I.list q
    cases e with
    | non =>
      rw [Rep] at h'
      subst h'; cases r'
      exact SeqAt.RcNeAt.list_none p.isList (by omega)
    | bl b =>
      rw [Rep] at h'
      subst h'; cases r'
      exact SeqAt.RcNeAt.list_bool b p.isList (by omega)
    | int b =>
      rw [Rep] at h'
      subst h'; obtain ⟨t, rfl⟩ := r'
      exact SeqAt.RcNeAt.list_int b t p.isList (by omega)
    | str b =>
      rw [Rep] at h'
      subst h'; obtain ⟨t, rfl⟩ := r'
      exact SeqAt.RcNeAt.list_str b t p.isList (by omega)
    | lst es =>
      rw [Rep] at h'
      obtain ⟨b, ys, rfl, q', qs'⟩ := h'; cases r'
      obtain ⟨its', rv', p', _⟩ := I.list q'
      rw [pyEq]
      rw [depthD] at z
      have l1 := qs.length
      have l2 := qs'.length
      have l3 := rv.length
      have l4 := rv'.length
      by_cases hl : ds.length = es.length
      · rw [← pyEqs_range ds es hl]
        have := SeqAt.RcNeAt.lists (e := eqJ ds es) p.isList p'.isList (by simp; omega) (by omega) (fun j h1 h2 => ?_) (A := A)
        · simp only [List.size_toArray] at this
          rw [show ds.length = its.length by omega]
          exact this
        · have := eqAts_rep I A.in1 ds es xs ys its its' qs qs' rv rv' (by rw [Around.in1_units]; omega) j (by simpa using h1) (by simpa using h2)
          simpa using this
      · rw [pyEqs_len hl]
        exact SeqAt.RcNeAt.lists_lengths p.isList p'.isList (by simp; omega) (by omega)
    | tup es =>
      rw [Rep] at h'
      obtain ⟨b, ys, rfl, q', qs'⟩ := h'; cases r'
      obtain ⟨its', rv', p', _⟩ := I.tuple q'
      exact SeqAt.RcNeAt.list_tuple p.isList p' (by omega)
  | tup ds =>
    rw [Rep] at h; obtain ⟨a, xs, rfl, q, qs⟩ := h; cases r
    obtain ⟨its, rv, p, _⟩ := I.tuple q
    cases e with
    | non =>
      rw [Rep] at h'
      subst h'; cases r'
      exact SeqAt.RcNeAt.tuple_none p (by omega)
    | bl b =>
      rw [Rep] at h'
      subst h'; cases r'
      exact SeqAt.RcNeAt.tuple_bool b p (by omega)
    | int b =>
      rw [Rep] at h'
      subst h'; obtain ⟨t, rfl⟩ := r'
      exact SeqAt.RcNeAt.tuple_int b t p (by omega)
    | str b =>
      rw [Rep] at h'
      subst h'; obtain ⟨t, rfl⟩ := r'
      exact SeqAt.RcNeAt.tuple_str b t p (by omega)
    | lst es =>
      rw [Rep] at h'
      obtain ⟨b, ys, rfl, q', qs'⟩ := h'; cases r'
      obtain ⟨its', rv', p', _⟩ := I.list q'
      exact SeqAt.RcNeAt.tuple_list p p'.isList (by omega)
    | tup es =>
      rw [Rep] at h'
      obtain ⟨b, ys, rfl, q', qs'⟩ := h'; cases r'
      obtain ⟨its', rv', p', _⟩ := I.tuple q'
      rw [pyEq]
      rw [depthD] at z
      have l1 := qs.length
      have l2 := qs'.length
      have l3 := rv.length
      have l4 := rv'.length
      have := SeqAt.RcNeAt.tuples (e := eqJ ds es) p p' (by omega) (fun j h1 h2 => ?_) (A := A)
      · simp only [List.size_toArray] at this
        by_cases hl : ds.length = es.length
        · rw [← pyEqs_range ds es hl]
          rw [show min its.length its'.length = ds.length by omega, show (its.length == its'.length) = true by simp; omega, Bool.and_true] at this
          exact this
        · rw [pyEqs_len hl]
          rw [show (its.length == its'.length) = false by simp; omega, Bool.and_false] at this
          exact this
      · have := eqAts_rep I A.in1 ds es xs ys its its' qs qs' rv rv' (by rw [Around.in1_units]; omega) j (by simpa using h1) (by simpa using h2)
        simpa using this
end
/-- room for what is compared -/
def RoomD (X : Cx) : Prop := X.A.units + 60 < cLine
section
variable {X : Cx}
def rEqD (K : PySem.W.Frag) : R2 := fun x y H Q => ∃ d e, Rep K H d x ∧ Rep K H e y ∧ depthD d < 60 ∧ Q (.bl (pyEq d e)) H
def rNeD (K : PySem.W.Frag) : R2 := fun x y H Q => ∃ d e, Rep K H d x ∧ Rep K H e y ∧ depthD d < 60 ∧ Q (.bl (!pyEq d e)) H
theorem op_eqD (hr : RoomD X) : OpR X (compareOp .Eq) (rEqD X.K) := by
  intro pins s σ H x y v u Q I rx ry h
  obtain ⟨d, e, h1, h2, h3, q⟩ := h
  unfold RoomD at hr
  exact rcAt_rep I X.A d e x y v u h1 h2 rx ry (by omega) X.prog X.w _ _ ⟨.bl _, H, I, rfl, q⟩
theorem op_neD (hr : RoomD X) : OpR X (compareOp .NotEq) (rNeD X.K) := by
  intro pins s σ H x y v u Q I rx ry h
  obtain ⟨d, e, h1, h2, h3, q⟩ := h
  unfold RoomD at hr
  exact rcNeAt_rep I X.A d e x y v u h1 h2 rx ry (by omega) X.prog X.w _ _ ⟨.bl _, H, I, rfl, q⟩
theorem roomD_of {A : Around} {k : Nat} (hr : Room k A) : A.units + 60 < cLine := Nat.lt_of_le_of_lt (Nat.add_le_add_left (by decide : 60 ≤ 64) _) hr.units

/-! ### isinstance of one built-in class -/
def tyName (K : PySem.W.Frag) (H : Hp) (x : V) (n : String) : Prop := TyOf K H x (.type n)
def isA (n c : String) : Bool := n == c || (n == "bool" && c == "int")
theorem call_isinst {n : String} : CallR X (.builtin "isinstance") (fun xs H Q => ∃ x t c b, xs = [x, .ty c] ∧ TyOf X.K H x (.type t) ∧ PySem.W.kitOne X.K (.type t) (.type c) = some b ∧ Q (.bl b) H) := by
  intro pins s σ H xs us Q I r h
  obtain ⟨x, t, c, b, rfl, ty, e, q⟩ := h
  obtain ⟨u, w', rfl, ru, rw'⟩ := vals2 r
  cases rw'
  exact isinst_ok I ru ty e fun tk => ⟨.bl b, H, I.tok tk, rfl, q⟩

/-! ### a, b = a list -/
def gLst (K : PySem.W.Frag) (n : Nat) (t : TGs) : TG := fun v σ H Q => ∃ a xs, v = .ref a ∧ SqL K H a xs ∧ xs.length = n ∧ t xs σ H Q
end
end L2

set_option Elab.async false
set_option linter.all false
set_option maxRecDepth 100000
set_option exponentiation.threshold 2000
namespace L2
open PySem PySem.Spec PyProof.Rows
section
variable {prog : Program} {w : World} {A : Around} {E : Value → Shared → Prop}
/-- n items drawn from a list's iterator -/
theorem draw_lst {it a : Addr} {its : Array Value} (ne : a ≠ it) : ∀ (n i : Nat) (s : Shared) (Q : List Value → Shared → Prop), s.heap.IsListIter it a i → s.heap.IsList a its → i + n ≤ its.size →
    (∀ g, g.IsListIter it a (i + n) → Heap.SameBut it s.heap g → Q ((its.toList.drop i).take n) { s with heap := g }) → wpAny (model prog w) A (draw (.ref it) n) Q E s
  | 0, i, s, Q, st, _, _, fin => by
    show wpAny _ _ (pure []) Q E s
    exact wpAny_pure (by simpa using fin s.heap st (Heap.SameBut.refl ..))
  | n + 1, i, s, Q, st, hl, le, fin => by
    have lt : i < its.size := by omega
    show wpAny _ _ (pyNext (.ref it) >>= _) Q E s
    refine wpAny_bind (wpAny_pyNext_list_item st hl (x := its[i]) (by simp [lt]) fun g st' sb => ?_)
    refine wpAny_bind (wpAny_holding (draw_lst ne n (i + 1) _ _ st' (hl.extBut sb.extBut ne) (by omega) fun g2 st2 sb2 => wpAny_pure ?_))
    have e1 : its.toList.drop i = its[i] :: its.toList.drop (i + 1) := by simp [List.drop_eq_getElem_cons, lt]
    have z := fin g2 (by rw [show i + (n + 1) = i + 1 + n by omega]; exact st2) (sb.trans sb2)
    rw [e1, List.take_succ_cons] at z
    exact z
theorem unpack_lst {s : Shared} {a : Addr} {its : Array Value} {targets : List (Bool × (Value → Sem Unit))} {Q : Unit → Shared → Prop} (hh : A.handled = none) (hl : s.heap.IsList a its)
    (hn : targets.length = its.size) (hst : targets.findIdx? (·.1) = none)
    (h : ∀ g, (∀ b o, s.heap.get? b = some o → g.get? b = some o) → wpAny (model prog w) A (assignInOrder (targets.map (·.2)) its.toList) Q E { s with heap := g }) :
    wpAny (model prog w) A (unpack (.ref a) targets) Q E s := by
  have ne : a ≠ s.heap.objs.size := by obtain ⟨o, ho, _⟩ := hl; exact Nat.ne_of_lt (Heap.lt_size ho)
  unfold unpack
  rw [hn, hst]
  refine wpAny_bind (wpAny_holding ?_)
  unfold unpackItems
  refine wpAny_bind ?_
  unfold notIterableAtAll
  refine wpAny_bind (wpAny_specialOf hl.typeIs slot_list_iter.lookup ?_)
  refine wpAny_pure ?_
  simp only [Bool.false_eq_true, if_false]
  refine wpAny_bind (wpAny_holding (wpAny_pyIter_list hl ?_))
  have kp : ∀ b o, s.heap.get? b = some o → (s.heap.push { cls := .type "list_iterator", data := .fields #[.ref a, .int 0 0] }).get? b = some o := fun b o e => Heap.get?_push_of_some _ e
  refine wpAny_bind (wpAny_holding (draw_lst ne its.size 0 _ _ ⟨_, Heap.get?_push_size _ rfl, rfl, rfl⟩ (hl.at fun o e => kp a o e) (by omega) fun g st sb => ?_))
  have all : List.take its.size (List.drop 0 its.toList) = its.toList := by
    rw [List.drop_zero]; exact List.take_of_length_le (by simp)
  rw [all]
  rw [if_neg (by simp)]
  have hl1 : g.IsList a its := (hl.at fun o e => kp a o e).extBut sb.extBut ne
  refine wpAny_bind (wpAny_holding (wpAny_pyNext_list_end hh st hl1 (by simp) fun g2 eb => ?_))
  simp only [Option.isSome_none, Bool.false_eq_true, if_false]
  refine wpAny_pure (h g2 fun b o e => ?_)
  have hb : b ≠ s.heap.objs.size := Nat.ne_of_lt (Heap.lt_size e)
  exact eb b o hb (sb.extBut b o hb (kp b o e))
end
section
variable {X : Cx}
theorem pg_lst {es : List Expr} {k : Nat} {t : TGs} {n : Nat} {pos : Pos} (hc : X.calm = true) (h : PGs X es t)
    (hn : (assignEach es X.env).length = n := by rfl) (hst : (assignEach es X.env).findIdx? (·.1) = none := by rfl) : PG X (.Tuple es k pos) (gLst X.K n t) := by
  intro pins s σ H v u Q I r hw
  obtain ⟨a, xs, e1, hq, hl, hw⟩ := hw
  subst e1
  cases r
  obtain ⟨its, rv, p, hz⟩ := I.list hq
  rw [assign_Tuple]
  refine wpAny_bind (wpAny_standAt (unpack_lst (I.ok.hd hc) p.isList (by simp [hn, ← hl, rv.length]) hst fun g kp => ?_))
  exact h pins _ σ H xs _ Q (I.kept (t' := s.toks) kp) (by simpa using rv) hw
end

/-! ### the forms of a comprehension that one uses -/
section
variable {K : PySem.W.Frag} {a p : Addr} {xs : List V} {g : TG} {tc : TT} {te : TE} {σ : St} {H : Hp} {Q : VK}
/-- one turn -/
abbrev LcTurn (p : Addr) (g : TG) (tc : TT) (te : TE) (ys : List V) (x : V) (σ : St) (H : Hp) (N : St → List V → Hp → Prop) : Prop :=
  g x σ H fun σ2 H2 => tc σ2 H2 fun b H3 => if b = true then te σ2 H3 fun y H4 => H4 p = some (.lst ys) ∧ N σ2 (ys ++ [y]) (upd H4 p (.lst (ys ++ [y]))) else N σ2 ys H3
theorem lc_gen {n : Nat} {J : It} {js : Cap} (Pv : Nat → St → List V → Hp → Prop) (h0 : Pv 0 (inn js σ) [] (upd H p (.lst [])))
    (hl : ∀ i σ ys H, i ≤ n → Pv i σ ys H → H p = some (.lst ys) ∧ ys.length < sizeLine)
    (hgo : ∀ i σ ys H, i < n → Pv i σ ys H → J.go i H) (hst : ∀ σ ys H, Pv n σ ys H → J.stop n H)
    (hs : ∀ (i : Nat) x σ ys H H' (N : St → List V → Hp → Prop), i < n → J.yld i H x H' → Pv i σ ys H → (∀ σ' ys' H', Pv (i + 1) σ' ys' H' → N σ' ys' H') → LcTurn p g tc te ys x σ H' N)
    (hd : ∀ σ ys H, Pv n σ ys H → Q (.ref p) H) :
    LcGoal J p js g tc te σ H Q := by
  refine ⟨fun i m σ ys H => m = n - i ∧ i ≤ n ∧ Pv i σ ys H, ⟨n, by simp, Nat.zero_le _, h0⟩, ?_⟩
  rintro i m σ ys H ⟨rfl, hi, pv⟩
  obtain ⟨q1, q2⟩ := hl i σ ys H hi pv
  refine ⟨q1, ?_⟩
  by_cases lt : i < n
  · exact .inr ⟨hgo i σ ys H lt pv, q2, fun x H' y => hs i x σ ys H H' (fun σ2 ys2 H2 => ∃ m', m' < n - i ∧ m' = n - (i + 1) ∧ i + 1 ≤ n ∧ Pv (i + 1) σ2 ys2 H2) lt y pv fun σ' ys' H' p' => ⟨n - (i + 1), by omega, rfl, lt, p'⟩⟩
  · have e : i = n := by omega
    subst e
    exact .inl ⟨hst σ ys H pv, hd σ ys H pv⟩
theorem lc_list {js : Cap} (Pv : Nat → St → List V → Hp → Prop) (h0 : Pv 0 (inn js σ) [] (upd H p (.lst [])))
    (hl : ∀ i σ ys H, i ≤ xs.length → Pv i σ ys H → SqL K H a xs ∧ H p = some (.lst ys) ∧ ys.length < sizeLine)
    (hs : ∀ (i : Nat) x σ ys H (N : St → List V → Hp → Prop), xs[i]? = some x → Pv i σ ys H → (∀ σ' ys' H', Pv (i + 1) σ' ys' H' → N σ' ys' H') → LcTurn p g tc te ys x σ H N)
    (hd : ∀ σ ys H, Pv xs.length σ ys H → Q (.ref p) H) : LcGoal (Itl K a) p js g tc te σ H Q :=
  lc_gen (n := xs.length) (J := Itl K a) (js := js) (σ := σ) (H := H) (p := p) (Q := Q) (g := g) (tc := tc) (te := te) Pv h0 (fun i σ ys H hi pv => (hl i σ ys H hi pv).2)
    (fun i σ ys H hi pv => ⟨xs, xs[i], (hl i σ ys H (Nat.le_of_lt hi) pv).1, by simp [hi]⟩) (fun σ ys H pv => ⟨xs, (hl _ σ ys H (Nat.le_refl _) pv).1, Nat.le_refl _⟩)
    (fun i x σ ys H H' N hi y pv hN => by
      obtain ⟨e, y⟩ := y
      subst e
      exact hs i x σ ys _ N (y xs (hl i σ ys _ (Nat.le_of_lt hi) pv).1) pv hN) hd
theorem lc_tup {js : Cap} (Pv : Nat → St → List V → Hp → Prop) (h0 : Pv 0 (inn js σ) [] (upd H p (.lst [])))
    (hl : ∀ i σ ys H, i ≤ xs.length → Pv i σ ys H → SqT K H a xs ∧ H p = some (.lst ys) ∧ ys.length < sizeLine)
    (hs : ∀ (i : Nat) x σ ys H (N : St → List V → Hp → Prop), xs[i]? = some x → Pv i σ ys H → (∀ σ' ys' H', Pv (i + 1) σ' ys' H' → N σ' ys' H') → LcTurn p g tc te ys x σ H N)
    (hd : ∀ σ ys H, Pv xs.length σ ys H → Q (.ref p) H) : LcGoal (Itt K a) p js g tc te σ H Q :=
  lc_gen (n := xs.length) (J := Itt K a) (js := js) (σ := σ) (H := H) (p := p) (Q := Q) (g := g) (tc := tc) (te := te) Pv h0 (fun i σ ys H hi pv => (hl i σ ys H hi pv).2)
    (fun i σ ys H hi pv => ⟨xs, xs[i], (hl i σ ys H (Nat.le_of_lt hi) pv).1, by simp [hi]⟩) (fun σ ys H pv => ⟨xs, (hl _ σ ys H (Nat.le_refl _) pv).1, Nat.le_refl _⟩)
    (fun i x σ ys H H' N hi y pv hN => by
      obtain ⟨e, y⟩ := y
      subst e
      exact hs i x σ ys _ N (y xs (hl i σ ys _ (Nat.le_of_lt hi) pv).1) pv hN) hd
theorem lc_range {js : Cap} {lo : Int} {n : Nat} (Pv : Nat → St → List V → Hp → Prop) (h0 : Pv 0 (inn js σ) [] (upd H p (.lst [])))
    (hl : ∀ i σ ys H, i ≤ n → Pv i σ ys H → H p = some (.lst ys) ∧ ys.length < sizeLine)
    (hs : ∀ (i : Nat) σ ys H (N : St → List V → Hp → Prop), i < n → Pv i σ ys H → (∀ σ' ys' H', Pv (i + 1) σ' ys' H' → N σ' ys' H') → LcTurn p g tc te ys (.int (lo + i)) σ H N)
    (hd : ∀ σ ys H, Pv n σ ys H → Q (.ref p) H) : LcGoal (Itr lo n) p js g tc te σ H Q :=
  lc_gen (n := n) (J := Itr lo n) (js := js) (σ := σ) (H := H) (p := p) (Q := Q) (g := g) (tc := tc) (te := te) Pv h0 hl
    (fun i σ ys H hi pv => hi) (fun σ ys H pv => Nat.le_refl n)
    (fun i x σ ys H H' N hi y pv hN => by
      obtain ⟨e, y⟩ := y
      subst e y
      exact hs i σ ys _ N hi pv hN) hd
end

/-! ### the block's names are well: by looking -/
def capCheck (outer : Scope) (N N' : List Str) (js : Cap) (scope : Scope) : Bool :=
  decide (js.length = N'.length) && (scope.kind == .function) && scope.names.all (fun p => p.2 != .cell && (p.2 != .local || scope.names.lookup p.1 == some .local) && (p.2 != .free || (outer.names.lookup p.1 == some .cell || outer.names.lookup p.1 == some .free)))
    && (List.range js.length).all fun i => match js[i]? with
      | some (some j) => (match N'[i]? with | some x => N[j]? == some x && scope.names.lookup x == some .free | none => false)
      | _ => true
theorem capOk {X : Cx} {N N' : List Str} {js : Cap} {scope outer : Scope} (h : capCheck outer N N' js scope = true) (hN : X.N = N := by rfl) (ho : X.env.scope = outer := by rfl) : CapOk X N' js scope := by
  subst hN ho
  unfold capCheck at h
  rw [Bool.and_eq_true, Bool.and_eq_true, Bool.and_eq_true] at h
  obtain ⟨⟨⟨h1, h2⟩, h3⟩, h4⟩ := h
  rw [List.all_eq_true] at h3 h4
  refine ⟨of_decide_eq_true h1, eq_of_beq h2, fun p hp e => ?_, fun p hp e => ?_, fun p hp e => ?_, fun i j e => ?_⟩
  · have := h3 p hp
    rw [e] at this
    simp at this
  · have := h3 p hp
    rw [e] at this
    simp at this
    exact this
  · have := h3 p hp
    rw [e] at this
    simp at this
    exact this
  · have hi : i < js.length := (List.getElem?_eq_some_iff.mp e).1
    have := h4 i (List.mem_range.mpr hi)
    rw [e] at this
    simp only at this
    cases q : N'[i]? with
    | none => rw [q] at this; cases this
    | some x =>
      rw [q] at this
      simp only [Bool.and_eq_true, beq_iff_eq] at this
      exact ⟨x, rfl, this.1, this.2⟩
end L2

set_option Elab.async false
set_option linter.all false
set_option maxRecDepth 100000
set_option exponentiation.threshold 2000
namespace L2
open PySem PySem.Spec PyProof.Rows

/-! ### a def of the text that keeps a promise -/
def FnH (P : Program) (w : World) (K : PySem.W.Frag) (mg : Str → Option Value) (base : Heap) (k : Nat) (x : Str) (ps : List Str) (sp : Sp) : Prop :=
  ∃ f fd, FnOk P w K mg base CX0 k f fd ps sp ∧ Binds K fd ps [] ∧ PySem.W.keepIn K (.ref f) = true ∧ mg x = some (.ref f)
section
variable {X : Cx} {k : Nat} {x : Str} {ps : List Str} {sp : Sp} {e : Expr} {es : List Expr} {t : TA} {p pos : Pos}
theorem pe_fn (F : FnH X.prog X.w X.K X.mg X.base k x ps sp) (hr : Room k X.A) (hg : Gl X x) (ha : PA X (e :: es) t) (hdb : (x == ("__debug__" : Str)) = false := by decide)
    (he : starEach (e :: es) X.env = (false, eval e X.env) :: starEach es X.env := by rfl) (hpl : (backTo pos (starEach es X.env)).any (·.1) = false := by rfl) : PE X (.Call (.Name x p) (e :: es) [] pos) (tCall sp [] E0 t) := by
  obtain ⟨f, fd, h1, h2, h3, h4⟩ := F
  exact pe_call h1 hr hg h4 h3 h2 .nil pass0 ha hdb he hpl
end
/-- the built-in names stand -/
structure Bl (mg : Str → Option Value) : Prop where
  len_ : mg "len" = none
  range_ : mg "range" = none
  isinstance_ : mg "isinstance" = none
  int_ : mg "int" = none
  bool_ : mg "bool" = none
  tuple_ : mg "tuple" = none
  list_ : mg "list" = none
  max_ : mg "max" = none
  min_ : mg "min" = none
  all_ : mg "all" = none
  zip_ : mg "zip" = none
  str_ : mg "str" = none
  dict_ : mg "dict" = none
  sorted_ : mg "sorted" = none
  set_ : mg "set" = none
  any_ : mg "any" = none
  sum_ : mg "sum" = none
  enumerate_ : mg "enumerate" = none
  repr_ : mg "repr" = none
  ord_ : mg "ord" = none
  chr_ : mg "chr" = none
  abs_ : mg "abs" = none
  reversed_ : mg "reversed" = none

theorem bt_int : bootBuiltins "int" = some (.type "int") := by decide +kernel
theorem bt_bool : bootBuiltins "bool" = some (.type "bool") := by decide +kernel
theorem bt_tuple : bootBuiltins "tuple" = some (.type "tuple") := by decide +kernel
theorem bt_str : bootBuiltins "str" = some (.type "str") := by decide +kernel
theorem bt_dict : bootBuiltins "dict" = some (.type "dict") := by decide +kernel
theorem bt_set : bootBuiltins "set" = some (.type "set") := by decide +kernel
theorem bt_isinstance : bootBuiltins "isinstance" = some (.builtin "isinstance") := by decide +kernel
theorem bt_len : bootBuiltins "len" = some (.builtin "len") := by decide +kernel
theorem bt_max : bootBuiltins "max" = some (.builtin "max") := by decide +kernel
theorem bt_min : bootBuiltins "min" = some (.builtin "min") := by decide +kernel
theorem bt_all : bootBuiltins "all" = some (.builtin "all") := by decide +kernel
theorem bt_sorted : bootBuiltins "sorted" = some (.builtin "sorted") := by decide +kernel
theorem small {n : Nat} (h : n ≤ 1000) : n ≤ sizeLine := Nat.le_of_lt (small1000 h)
theorem same_new {H : Hp} {p : Addr} (h : H p = none) (o : HO) : Same H (upd H p o) := fun b u q => by rw [upd_ne (ne_of_none q h)]; exact q

/-! ### an end: none or an int -/
def eV : Option Int → V
  | none => .non
  | some i => .int i
theorem eV_notnon (o : Option Int) : (!decide (eV o = V.non)) = o.isSome := by
  cases o with
  | none => rfl
  | some i => rfl

/-! ### the bag -/
def bigM : Int := 618970019642690137449562111
structure Bag (H : Hp) (b g l : Addr) (n : Int) : Prop where
  ex : ∃ (gs ls : List Int) (c st : Int), H b = some (.lst [.ref g, .ref l, .int c, .int st]) ∧ H g = some (.lst (gs.map V.int)) ∧ H l = some (.lst (ls.map V.int)) ∧
    gs.length ≤ 63 ∧ 0 < ls.length ∧ ls.length ≤ 64 ∧ (∀ x ∈ ls, 0 ≤ x ∧ x < 10 ^ 18) ∧ 0 ≤ c ∧ c ≤ n ∧ 0 ≤ st ∧ st < bigM
  gl : g ≠ l
/-- all but the bag's own two lists is as it was -/
def SameB (b g : Addr) (H H' : Hp) : Prop := ∀ a o, H a = some o → a ≠ b → a ≠ g → H' a = some o
theorem Bag.bg {H : Hp} {b g l : Addr} {n : Int} (B : Bag H b g l n) : b ≠ g := by
  obtain ⟨gs, ls, c, st, h1, h2, _⟩ := B.ex
  intro e
  rw [e, h2] at h1
  cases gs with
  | nil => cases h1
  | cons x r => injection h1 with h1; injection h1 with h1; injection h1 with h1 _; cases h1
theorem Bag.bl {H : Hp} {b g l : Addr} {n : Int} (B : Bag H b g l n) : b ≠ l := by
  obtain ⟨gs, ls, c, st, h1, h2, h3, _⟩ := B.ex
  intro e
  rw [e, h3] at h1
  cases ls with
  | nil => cases h1
  | cons x r => injection h1 with h1; injection h1 with h1; injection h1 with h1 _; cases h1
theorem Bag.mono {H : Hp} {b g l : Addr} {n m : Int} (B : Bag H b g l n) (h : n ≤ m) : Bag H b g l m := by
  obtain ⟨⟨gs, ls, c, st, h1, h2, h3, h4, h5, h6, h7, h8, h9, h10⟩, gl⟩ := B
  exact ⟨⟨gs, ls, c, st, h1, h2, h3, h4, h5, h6, h7, h8, Int.le_trans h9 h, h10⟩, gl⟩
theorem Bag.same {H H' : Hp} {b g l : Addr} {n : Int} (B : Bag H b g l n) (h : Same H H') : Bag H' b g l n := by
  obtain ⟨⟨gs, ls, c, st, h1, h2, h3, h4⟩, gl⟩ := B
  exact ⟨⟨gs, ls, c, st, h _ _ h1, h _ _ h2, h _ _ h3, h4⟩, gl⟩
theorem SameB.refl (b g : Addr) (H : Hp) : SameB b g H H := fun _ _ h _ _ => h
theorem SameB.trans {b g : Addr} {H H1 H2 : Hp} (x : SameB b g H H1) (y : SameB b g H1 H2) : SameB b g H H2 := fun a o h n1 n2 => y a o (x a o h n1 n2) n1 n2
theorem Same.sameB {b g : Addr} {H H1 : Hp} (x : Same H H1) : SameB b g H H1 := fun a o h _ _ => x a o h
/-- a tuple is never one of the bag's lists -/
theorem SameB.tup {b g l : Addr} {n : Int} {H H' : Hp} (B : Bag H b g l n) (s : SameB b g H H') {a : Addr} {xs : List V} (h : H a = some (.tup xs)) : H' a = some (.tup xs) := by
  obtain ⟨gs, ls, c, st, h1, h2, _⟩ := B.ex
  exact s a _ h (ne_of h h1 (by intro z; cases z)) (ne_of h h2 (by intro z; cases z))
/-- what was untracked ahead is no part of the bag -/
theorem Bag.free {H : Hp} {b g l : Addr} {n : Int} (B : Bag H b g l n) {p : Addr} (h : H p = none) : p ≠ b ∧ p ≠ g ∧ p ≠ l := by
  obtain ⟨gs, ls, c, st, h1, h2, h3, _⟩ := B.ex
  exact ⟨(ne_of_none h1 h).symm, (ne_of_none h2 h).symm, (ne_of_none h3 h).symm⟩

/-! ### short forms -/
theorem while_then {c : TT} {tb u : TS} {D : Ends} {σ : St} {H : Hp} (W : Nat → St → Hp → Prop) (M : St → Hp → Prop) (h0 : ∃ m, W m σ H)
    (hs : ∀ (m : Nat) σ H (Z : St → Hp → Prop), W m σ H → (∀ σ' H', M σ' H' → Z σ' H') → c σ H fun b H1 => if b = true then ∃ N : St → Hp → Prop, (∀ σ' H', N σ' H' → ∃ m', m' < m ∧ W m' σ' H') ∧ tb { nx := N, rt := D.rt, bk := Z, ct := N } σ H1 else Z σ H1)
    (hd : ∀ σ H, M σ H → u D σ H) : tSeq (tWhile c tb) u D σ H := ⟨W, h0, fun m σ H w => hs m σ H (u D) w hd⟩
theorem rep_ints {K : PySem.W.Frag} {H : Hp} : ∀ ns : List Int, Reps K H (ns.map PD.int) (ns.map V.int)
  | [] => by show Reps K H [] []; rw [Reps]
  | n :: ns => by
    show Reps K H (.int n :: ns.map PD.int) (.int n :: ns.map V.int)
    rw [Reps]
    exact ⟨_, _, rfl, by rw [Rep], rep_ints ns⟩
theorem depth_ints : ∀ ns : List Int, depthDs (ns.map PD.int) = 0
  | [] => by show depthDs [] = 0; rw [depthDs]
  | n :: ns => by
    show depthDs (.int n :: ns.map PD.int) = 0
    rw [depthDs, depth_ints ns, depthD]
    all_goals simp
theorem eqNil {K : PySem.W.Frag} {H : Hp} {a p : Addr} {ns : List Int} {Q : VK} (h : SqL K H a (ns.map V.int)) (hp : SqL K H p []) (q : Q (.bl ns.isEmpty) H) : rEqD K (.ref a) (.ref p) H Q := by
  refine ⟨.lst (ns.map PD.int), .lst [], by rw [Rep]; exact ⟨a, _, rfl, h, rep_ints ns⟩, by rw [Rep]; exact ⟨p, _, rfl, hp, by rw [Reps]⟩, by rw [depthD, depth_ints]; decide, ?_⟩
  cases ns with
  | nil => rw [pyEq, show pyEqs (([] : List Int).map PD.int) [] = true from pyEqs_refl []]; exact q
  | cons n ns => rw [pyEq, pyEqs_len (by simp)]; exact q
theorem neNil {K : PySem.W.Frag} {H : Hp} {a p : Addr} {ns : List Int} {Q : VK} (h : SqL K H a (ns.map V.int)) (hp : SqL K H p []) (q : Q (.bl (!ns.isEmpty)) H) : rNeD K (.ref a) (.ref p) H Q := by
  refine ⟨.lst (ns.map PD.int), .lst [], by rw [Rep]; exact ⟨a, _, rfl, h, rep_ints ns⟩, by rw [Rep]; exact ⟨p, _, rfl, hp, by rw [Reps]⟩, by rw [depthD, depth_ints]; decide, ?_⟩
  cases ns with
  | nil => rw [pyEq, show pyEqs (([] : List Int).map PD.int) [] = true from pyEqs_refl []]; exact q
  | cons n ns => rw [pyEq, pyEqs_len (by simp)]; exact q
theorem at0 {α : Type} {x : α} {r : List α} : atI (x :: r) 0 = some x := atI_nat (j := 0) rfl
theorem ix0 {α : Type} {x : α} {r : List α} : ixN (x :: r).length 0 = some 0 := by
  unfold ixN
  rw [if_pos (by decide), if_pos (by rw [List.length_cons]; omega)]
  rfl
/-- an item at a place that lies in the list -/
theorem atInts {ls : List Int} {i : Int} (h0 : 0 ≤ i) (h1 : i < (ls.length : Int)) : ∃ v, atI (ls.map V.int) i = some (.int v) ∧ v ∈ ls := by
  obtain ⟨k, rfl⟩ := Int.eq_ofNat_of_zero_le h0
  have hk : k < ls.length := by omega
  exact ⟨ls[k], atI_nat (by rw [List.getElem?_map, List.getElem?_eq_getElem hk]; rfl), List.getElem_mem _⟩
theorem sz0 : (0 : Nat) ≤ sizeLine := Nat.zero_le _

/-! ### what the drawing defs promise -/
def spDraw : Sp := fun vs H Q _ => ∃ (b g l : Addr) (n many : Int), vs = [.ref b, .int many] ∧ Bag H b g l n ∧ n ≤ 2 ^ 40 ∧ 0 < many ∧ many < 2 ^ 500 ∧
  ∀ (r : Int) (H' : Hp), 0 ≤ r → r < many → Bag H' b g l (n + 1) → SameB b g H H' → Q (.int r) H'
def spBag (K : PySem.W.Frag) : Sp := fun vs H Q _ => ∃ (a : Addr) (ns : List Int), vs = [.ref a] ∧ SqL K H a (ns.map V.int) ∧ ns.length ≤ 63 ∧
  ∀ (b g l : Addr) (H' : Hp), Bag H' b g l 0 → Same H H' → H b = none → H g = none → Q (.ref b) H'

/-! ### comprehensions over ints, over ends -/
theorem take_snoc {α : Type} {l : List α} {i : Nat} {x : α} (h : l[i]? = some x) : l.take (i + 1) = l.take i ++ [x] := by
  rw [List.take_succ, h]
  rfl
theorem lc_ints {K : PySem.W.Frag} {H : Hp} {a p : Addr} {Q : VK} {js : Cap} {σ cap : St} {tc : TT} {te : TE} (ns : List Int) (f : Int → Int) (c : Int → Bool) (hn : ns.length ≤ 900) (e : SqL K H a (ns.map V.int)) (hp : H p = none) (hσ : inn js σ = none :: cap)
    (ht : ∀ n H' (R : Bool → Hp → Prop), Same H H' → R (c n) H' → tc (some (.int n) :: cap) H' R) (he : ∀ n H' (R : VK), Same H H' → R (.int (f n)) H' → te (some (.int n) :: cap) H' R)
    (hq : ∀ H', Same H H' → H' p = some (.lst (((ns.filter c).map f).map V.int)) → Q (.ref p) H') : LcGoal (Itl K a) p js (gName 0) tc te σ H Q := by
  have s0 := same_new hp (.lst [])
  refine lc_list (xs := ns.map V.int) (fun i σ' ys H' => (∃ v, σ' = v :: cap) ∧ Same H H' ∧ H' p = some (.lst ys) ∧ ys = ((((ns.take i).filter c).map f).map V.int)) ⟨⟨_, hσ⟩, s0, upd_same, rfl⟩ ?_ ?_ ?_
  · rintro i σ' ys H' hi ⟨_, s, h1, h2⟩
    refine ⟨s.seq e, h1, ?_⟩
    rw [h2]
    simp only [List.length_map]
    have := List.length_filter_le c (ns.take i)
    rw [List.length_take] at this
    exact small1000 (by omega)
  · rintro i x σ' ys H' N hx ⟨⟨v, rfl⟩, s, h1, h2⟩ hN
    rw [List.getElem?_map] at hx
    cases hn' : ns[i]? with
    | none => rw [hn'] at hx; cases hx
    | some n =>
      rw [hn'] at hx
      have hx : V.int n = x := Option.some.inj hx
      subst hx
      refine ht n H' _ s ?_
      have e1 := take_snoc hn'
      cases hc : c n with
      | true =>
        refine iteT (he n H' _ s ⟨h1, hN _ _ _ ⟨⟨_, rfl⟩, ?_, upd_same, ?_⟩⟩)
        · intro b o q
          have : b ≠ p := fun z => by rw [z, hp] at q; cases q
          rw [upd_ne this]
          exact s b o q
        · rw [h2, e1, List.filter_append, List.filter_cons, if_pos hc]
          simp
      | false =>
        refine iteF (hN _ _ _ ⟨⟨_, rfl⟩, s, h1, ?_⟩)
        rw [h2, e1, List.filter_append, List.filter_cons, if_neg (by rw [hc]; exact Bool.false_ne_true)]
        simp
  · rintro σ' ys H' ⟨_, s, h1, h2⟩
    refine hq H' s ?_
    rw [h1, h2, List.length_map, List.take_length]
/-- over the ends of a tuple; d: does the end stay (an int) -/
theorem lc_ends {K : PySem.W.Frag} {H : Hp} {a p : Addr} {Q : VK} {js : Cap} {σ cap : St} {tc : TT} {te : TE} (os : List (Option Int)) (c : Option Int → Bool) (hn : os.length ≤ 900) (e : SqT K H a (os.map eV)) (hp : H p = none) (hσ : inn js σ = none :: cap)
    (mono : ∀ {H'}, Same H H' → SqT K H' a (os.map eV))
    (ht : ∀ o H' (R : Bool → Hp → Prop), Same H H' → R (c o) H' → tc (some (eV o) :: cap) H' R) (he : ∀ o H' (R : VK), Same H H' → R (eV o) H' → te (some (eV o) :: cap) H' R)
    (hq : ∀ H', Same H H' → H' p = some (.lst ((os.filter c).map eV)) → Q (.ref p) H') : LcGoal (Itt K a) p js (gName 0) tc te σ H Q := by
  have s0 := same_new hp (.lst [])
  refine lc_tup (xs := os.map eV) (fun i σ' ys H' => (∃ v, σ' = v :: cap) ∧ Same H H' ∧ H' p = some (.lst ys) ∧ ys = ((os.take i).filter c).map eV) ⟨⟨_, hσ⟩, s0, upd_same, rfl⟩ ?_ ?_ ?_
  · rintro i σ' ys H' hi ⟨_, s, h1, h2⟩
    refine ⟨mono s, h1, ?_⟩
    rw [h2]
    simp only [List.length_map]
    have := List.length_filter_le c (os.take i)
    rw [List.length_take] at this
    exact small1000 (by omega)
  · rintro i x σ' ys H' N hx ⟨⟨v, rfl⟩, s, h1, h2⟩ hN
    rw [List.getElem?_map] at hx
    cases hn' : os[i]? with
    | none => rw [hn'] at hx; cases hx
    | some n =>
      rw [hn'] at hx
      have hx : eV n = x := Option.some.inj hx
      subst hx
      refine ht n H' _ s ?_
      have e1 := take_snoc hn'
      cases hc : c n with
      | true =>
        refine iteT (he n H' _ s ⟨h1, hN _ _ _ ⟨⟨_, rfl⟩, ?_, upd_same, ?_⟩⟩)
        · intro b o q
          have : b ≠ p := fun z => by rw [z, hp] at q; cases q
          rw [upd_ne this]
          exact s b o q
        · rw [h2, e1, List.filter_append, List.filter_cons, if_pos hc]
          simp
      | false =>
        refine iteF (hN _ _ _ ⟨⟨_, rfl⟩, s, h1, ?_⟩)
        rw [h2, e1, List.filter_append, List.filter_cons, if_neg (by rw [hc]; exact Bool.false_ne_true)]
        simp
  · rintro σ' ys H' ⟨_, s, h1, h2⟩
    refine hq H' s ?_
    rw [h1, h2, List.length_map, List.take_length]
theorem Same.seqT {K : PySem.W.Frag} {H H' : Hp} {a : Addr} {xs : List V} (e : Same H H') (h : SqT K H a xs) : SqT K H' a xs := by
  rcases h with (h | ⟨o, h⟩) | h
  · exact .inl (.inl (e _ _ h))
  · exact .inl (.inr ⟨o, e _ _ h⟩)
  · exact .inr h
end L2

set_option Elab.async false
set_option linter.all false
set_option maxRecDepth 100000
set_option exponentiation.threshold 2000
namespace L2
open PySem PySem.Spec PyProof.Rows
/-- a sequence of values that stays -/
def Itv (xs : List V) : It := ⟨fun i _ => i < xs.length, fun i H x H' => H' = H ∧ xs[i]? = some x, fun i _ => xs.length ≤ i⟩

theorem turn_strascii {P : Program} {w : World} {K : PySem.W.Frag} {tg : Expr} (it : Addr) (x : Str) (t : Tok) : Turn P w K tg (Itv (x.cps.toList.map fun c => V.str ⟨#[c]⟩)) [it] it (fun i h => h.IsStrIter it "str_ascii_iterator" x t i) where
  mem := by simp
  obj := fun i h st b hb => by
    have e : b = it := by simpa using hb
    subst e
    obtain ⟨o, e, c, d⟩ := st
    exact ⟨o, e, fun v z => by rw [d] at z; cases z⟩
  keep := fun i h h' st k => let ⟨o, ho, r⟩ := st; ⟨o, k it (by simp) o ho, r⟩
  item := by
    intro X hP hw hK hc i pins s σ H E I hf st hg
    subst hP hw hK
    have hg : i < (x.cps.toList.map fun c => V.str ⟨#[c]⟩).length := hg
    rw [List.length_map, Array.length_toList] at hg
    obtain ⟨f0, f1, f2, f3, f4, f5⟩ := hf it (by simp)
    refine wpAny_pyNext_ascii_item st (c := x.cps[i]) (by simp [hg]) fun h' st' sb => ?_
    have I1 : Inv X pins σ H { s with heap := h', toks := s.toks + 1 } := I.turned (fun b o hb e => (sb.2 b hb).trans e) f0 f1 f3 f4 f5
    obtain ⟨o, e, c, d⟩ := id st'
    exact ⟨_, rfl, go_of (s := { s with heap := h', toks := s.toks + 1 }) e c d (by decide) ⟨.str ⟨#[x.cps[i]]⟩, H, I1, ⟨_, rfl⟩, ⟨rfl, by rw [List.getElem?_map, Array.getElem?_toList, Array.getElem?_eq_getElem hg]; rfl⟩, st', fun b hb => (hf b hb).1⟩⟩
  done := by
    intro X hP hw hK hc i pins s σ H E I hf st hg
    subst hP hw hK
    have hg : (x.cps.toList.map fun c => V.str ⟨#[c]⟩).length ≤ i := hg
    rw [List.length_map, Array.length_toList] at hg
    obtain ⟨f0, f1, f2, f3, f4, f5⟩ := hf it (by simp)
    exact wpAny_pyNext_ascii_end (I.ok.hd hc) st (by simpa using hg) fun h' eb => ⟨rfl, I.turned (t' := s.toks) (fun b o hb e => eb b o hb e) f0 f1 f3 f4 f5⟩
  self := fun _ _ _ _ _ st h => wpAny_pyIter_striter_ascii st h

theorem turn_strwide {P : Program} {w : World} {K : PySem.W.Frag} {tg : Expr} (it : Addr) (x : Str) (t : Tok) : Turn P w K tg (Itv (x.cps.toList.map fun c => V.str ⟨#[c]⟩)) [it] it (fun i h => h.IsStrIter it "str_iterator" x t i) where
  mem := by simp
  obj := fun i h st b hb => by
    have e : b = it := by simpa using hb
    subst e
    obtain ⟨o, e, c, d⟩ := st
    exact ⟨o, e, fun v z => by rw [d] at z; cases z⟩
  keep := fun i h h' st k => let ⟨o, ho, r⟩ := st; ⟨o, k it (by simp) o ho, r⟩
  item := by
    intro X hP hw hK hc i pins s σ H E I hf st hg
    subst hP hw hK
    have hg : i < (x.cps.toList.map fun c => V.str ⟨#[c]⟩).length := hg
    rw [List.length_map, Array.length_toList] at hg
    obtain ⟨f0, f1, f2, f3, f4, f5⟩ := hf it (by simp)
    refine wpAny_pyNext_wide_item st (c := x.cps[i]) (by simp [hg]) fun h' st' sb => ?_
    have I1 : Inv X pins σ H { s with heap := h', toks := s.toks + 1 } := I.turned (fun b o hb e => (sb.2 b hb).trans e) f0 f1 f3 f4 f5
    obtain ⟨o, e, c, d⟩ := id st'
    exact ⟨_, rfl, go_of (s := { s with heap := h', toks := s.toks + 1 }) e c d (by decide) ⟨.str ⟨#[x.cps[i]]⟩, H, I1, ⟨_, rfl⟩, ⟨rfl, by rw [List.getElem?_map, Array.getElem?_toList, Array.getElem?_eq_getElem hg]; rfl⟩, st', fun b hb => (hf b hb).1⟩⟩
  done := by
    intro X hP hw hK hc i pins s σ H E I hf st hg
    subst hP hw hK
    have hg : (x.cps.toList.map fun c => V.str ⟨#[c]⟩).length ≤ i := hg
    rw [List.length_map, Array.length_toList] at hg
    obtain ⟨f0, f1, f2, f3, f4, f5⟩ := hf it (by simp)
    exact wpAny_pyNext_wide_end (I.ok.hd hc) st (by simpa using hg) fun h' eb => ⟨rfl, I.turned (t' := s.toks) (fun b o hb e => eb b o hb e) f0 f1 f3 f4 f5⟩
  self := fun _ _ _ _ _ st h => wpAny_pyIter_striter_wide st h

section
variable {X : Cx} {tg : Expr}
/-- the signs of a text -/
def signs (x : Str) : List V := x.cps.toList.map fun c => V.str ⟨#[c]⟩
def iStr (tl : TE) : TI := fun σ H R => tl σ H fun v H1 => ∃ x, v = .str x ∧ R (Itv (signs x)) H1
theorem pi_str {l : Expr} {tl : TE} (hl : PE X l tl) : PI X tg l (iStr tl) := by
  intro pins s σ H R I h
  refine thn (hl pins s σ H _ I h) fun v s1 ⟨y, H1, I1, r1, q1⟩ => ?_
  obtain ⟨x, e, q⟩ := q1
  subst e
  obtain ⟨t, rfl⟩ := r1
  cases ha : x.cps.all (· < 128)
  · refine wpAny_pyIter_wide ha ?_
    refine ⟨s1.heap.objs.size, [s1.heap.objs.size], _, _, H1, rfl, I1.kept (t' := s1.toks) fun b o e => Heap.get?_push_of_some _ e, turn_strwide _ x t, ⟨_, Heap.get?_push_size _ rfl, rfl, rfl⟩, fun b hb => ?_, q⟩
    have e : b = s1.heap.objs.size := by simpa using hb
    subst e
    exact I1.fpOk (Nat.le_refl _) (I1.hok.fresh (Nat.le_refl _))
  · refine wpAny_pyIter_ascii ha ?_
    refine ⟨s1.heap.objs.size, [s1.heap.objs.size], _, _, H1, rfl, I1.kept (t' := s1.toks) fun b o e => Heap.get?_push_of_some _ e, turn_strascii _ x t, ⟨_, Heap.get?_push_size _ rfl, rfl, rfl⟩, fun b hb => ?_, q⟩
    have e : b = s1.heap.objs.size := by simpa using hb
    subst e
    exact I1.fpOk (Nat.le_refl _) (I1.hok.fresh (Nat.le_refl _))
theorem op_le_str : OpR X (compareOp .LtE) (fun x y H Q => ∃ i j, x = .str i ∧ y = .str j ∧ Q (.bl (!decide (j.cps.toList < i.cps.toList))) H) := by
  intro pins s σ H x y v u Q I rx ry h
  obtain ⟨i, j, rfl, rfl, q⟩ := h
  obtain ⟨t, rfl⟩ := rx
  obtain ⟨t', rfl⟩ := ry
  exact PySem.P.le_str (fin_bl I q rfl)
/-- all(xs) of a list of truths -/
theorem call_all (hc : X.calm = true) : CallR X (.builtin "all") (fun xs H Q => ∃ (a : Addr) (bs : List Bool), xs = [.ref a] ∧ SqL X.K H a (bs.map V.bl) ∧ Q (.bl (bs.all id)) H) := by
  intro pins s σ H xs us Q I r h
  obtain ⟨a, bs, rfl, hq, q⟩ := h
  obtain ⟨u, rfl, ru⟩ := vals1 r
  cases ru
  obtain ⟨its, rv, p, hzz⟩ := I.list hq
  have ll := rv.length
  rw [List.length_map] at ll
  refine call_all_walk (wpAny_pyIter_list p.isList ?_)
  obtain ⟨o, ho, _⟩ := id p.isList
  have lt := Heap.lt_size ho
  refine ⟨s.heap.objs.size, _, _, _, _, _, fun i => bs.getD i false, rfl, Walks.list (A := X.A.in1) (I.ok.hd hc) s.heap.objs.size a (Nat.ne_of_lt lt) its.toArray, ⟨⟨_, Heap.get?_push_size _ rfl, rfl, rfl⟩, p.isList.at fun o' e => Heap.get?_push_of_some _ e⟩, ?_, fun g t' k => ?_⟩
  · intro i v s' Q' E' hv q'
    have hi : its[i]? = some v := by simpa using hv
    have hl : i < its.length := (List.getElem?_eq_some_iff.mp hi).1
    have e : (bs.map V.bl)[i]? = some (.bl (bs.getD i false)) := by
      rw [List.getElem?_map, List.getElem?_eq_getElem (by omega), List.getD_eq_getElem?_getD, List.getElem?_eq_getElem (by omega)]
      rfl
    obtain ⟨u, h1, h2⟩ := Vals.get rv e
    rw [hi] at h1
    cases h1
    cases h2
    exact wpAny_truthy_bool q'
  · refine ⟨.bl (bs.all id), H, I.kept (fun b o' e => k b o' ?_ (Heap.get?_push_of_some _ e)), ?_, q⟩
    · intro z
      exact absurd (List.mem_singleton.mp z) (Nat.ne_of_lt (Heap.lt_size e))
    · show Value.bool _ = Value.bool _
      congr 1
      rw [List.size_toArray, ← ll]
      clear rv ll hq q p ho lt hzz
      induction bs with
      | nil => rfl
      | cons b r ih =>
        rw [List.length_cons, List.range_succ_eq_map, List.all_cons, List.all_map, List.all_cons, ← ih]
        rfl
end
/-- a comprehension over a sequence that stays -/
theorem lc_itv {xs : List V} {p : Addr} {g : TG} {tc : TT} {te : TE} {σ : St} {H : Hp} {Q : VK} {js : Cap} (Pv : Nat → St → List V → Hp → Prop) (h0 : Pv 0 (inn js σ) [] (upd H p (.lst [])))
    (hl : ∀ i σ ys H, i ≤ xs.length → Pv i σ ys H → H p = some (.lst ys) ∧ ys.length < sizeLine)
    (hs : ∀ (i : Nat) x σ ys H (N : St → List V → Hp → Prop), xs[i]? = some x → Pv i σ ys H → (∀ σ' ys' H', Pv (i + 1) σ' ys' H' → N σ' ys' H') → LcTurn p g tc te ys x σ H N)
    (hd : ∀ σ ys H, Pv xs.length σ ys H → Q (.ref p) H) : LcGoal (Itv xs) p js g tc te σ H Q :=
  lc_gen (n := xs.length) (J := Itv xs) (js := js) (σ := σ) (H := H) (p := p) (Q := Q) (g := g) (tc := tc) (te := te) Pv h0 hl
    (fun i σ ys H hi pv => hi) (fun σ ys H pv => Nat.le_refl _)
    (fun i x σ ys H H' N hi y pv hN => by
      obtain ⟨e, y⟩ := y
      subst e
      exact hs i x σ ys _ N y pv hN) hd
end L2

set_option Elab.async false
set_option linter.all false
set_option maxRecDepth 100000
set_option exponentiation.threshold 2000
namespace L2
open PySem PySem.Spec PyProof.Rows

section
variable {prog : Program} {w : World} {A : Around} {E : Value → Shared → Prop} {R : Result → Shared → Prop} {s : Shared}
/-- a dict comprehension's loop -/
theorem compLoop_goD {kx vx target iter : Expr} {ifs : List Expr} {scope : Scope} {pos : Pos} {it : Value} {D : Addr} {env : Env} (I : Nat → Shared → Prop)
    (turn : ∀ n s, I n s → wpAny (model prog w) A (pyNext it) (fun r s₁ => match r with
      | none => R (.ok .next) s₁
      | some v => wpAny (model prog w) A (letOwnedTupleGo target it v) (fun _ s₁' => wpAny (model prog w) A (assign target env v) (fun _ s₂ =>
          wpAny (model prog w) A (forIn ifs true fun c r => if r = true then do let ok ← isTrue c env (eval c env); pure (ForInStep.yield ok) else pure (ForInStep.yield r)) (fun ok s₃ =>
            if ok = true then wpAny (model prog w) A (eval kx env) (fun kv s₄ => wpAny (model prog w) A (eval vx env) (fun vv s₅ =>
              wpAny (model prog w) A (dictSet D kv vv) (fun _ s₆ => ∃ m, m < n ∧ I m s₆) (fun _ _ => False) s₅) (fun _ _ => False) s₄) (fun _ _ => False) s₃
            else ∃ m, m < n ∧ I m s₃) (fun _ _ => False) s₂) (fun _ _ => False) s₁') (fun _ _ => False) s₁) (fun _ _ => False) s)
    (n : Nat) (h : I n s) :
    codeAny (model prog w) A (.compLoop (.DictComp kx vx [⟨target, iter, ifs, 0⟩] scope pos) 0 it (.ref D) env) R s := by
  refine codeAny_loop rfl I (fun n s hI => ?_) n h
  show wpAny _ A ((compTurn (.DictComp kx vx [⟨target, iter, ifs, 0⟩] scope pos) 0 it (.ref D) env).onRaise (fun x => do noteFrame x env; theTreesLotGoes x)) _ _ s
  refine wpAny_noted ?_
  rw [compTurn_dict]
  refine wpAny_bind (wpAny_standAt (wpAny_bind (wpAny_mono (turn n s hI) (fun r s₁ h₁ => ?_) fun _ _ z => z.elim)))
  cases r with
  | none => exact wpAny_pure h₁
  | some v =>
    refine wpAny_bind (wpAny_mono h₁ (fun _ s₁' h₁' => ?_) fun _ _ z => z.elim)
    refine wpAny_bind (wpAny_mono h₁' (fun _ s₂ h₂ => wpAny_bind (wpAny_mono h₂ (fun ok s₃ h₃ => ?_) fun _ _ z => z.elim)) fun _ _ z => z.elim)
    cases ok with
    | false => exact wpAny_pure ⟨rfl, h₃⟩
    | true =>
      exact wpAny_bind (wpAny_bind (wpAny_mono h₃ (fun kv s₄ h₄ => wpAny_bind (wpAny_holding (wpAny_mono h₄ (fun vv s₅ h₅ => wpAny_bind (wpAny_standAt (wpAny_holding (wpAny_mono h₅ (fun _ s₆ h₆ => wpAny_pure ⟨rfl, h₆⟩) fun _ _ z => z.elim)))) fun _ _ z => z.elim)) ) fun _ _ z => z.elim))
end
/-- what is read of a dict comprehension -/
def DcGoal (J : It) (p : Addr) (js : Cap) (g : TG) (tc : TT) (tk tv : TE) (σ : St) (H : Hp) (Q : VK) : Prop :=
  ∃ W : Nat → Nat → St → List (Key × V) → Hp → Prop, (∃ m, W 0 m (inn js σ) [] (upd H p (.dK []))) ∧ ∀ i m σ' kvs H, W i m σ' kvs H → H p = some (.dK kvs) ∧
    ((J.stop i H ∧ Q (.ref p) H) ∨ (J.go i H ∧ kvs.length < sizeLine ∧ ∀ x H', J.yld i H x H' → g x σ' H' fun σ2 H2 => tc σ2 H2 fun b H3 =>
      if b = true then tk σ2 H3 fun k H4 => tv σ2 H4 fun y H5 => ∃ ky, k = kV ky ∧ H5 p = some (.dK kvs) ∧ ∃ m', m' < m ∧ W (i + 1) m' σ2 (putK kvs ky y) (upd H5 p (.dK (putK kvs ky y)))
      else ∃ m', m' < m ∧ W (i + 1) m' σ2 kvs H3))
def tDC (wi : TI) (js : Cap) (g : TG) (tc : TT) (tk tv : TE) : TE := fun σ H Q => wi σ H fun J H1 => ∀ p, H1 p = none → DcGoal J p js g tc tk tv σ H1 Q
section
variable {X : Cx} {tg iter kx vx : Expr} {ifs : List Expr} {wi : TI} {js : Cap} {g : TG} {tc : TT} {tk tv : TE} {N' : List Str} {scope : Scope} {pos : Pos}
/-- the block of a dict comprehension -/
theorem dc_block {pins : List (Addr × Obj)} {σ : St} {H : Hp} {s : Shared} {E : Value → Shared → Prop} {Q : VK} {J : It} {it : Addr} {fp : List Addr} {tn : Nat → Heap → Prop} {cl : List (Str × Addr)}
    (hc : X.calm = true) (ok : CapOk X N' js scope)
    (h2 : ∀ x c, cl.lookup x = some c → X.env.cells.lookup x = some c) (h3 : ∀ p ∈ scope.names, p.2 = .free → (cl.lookup p.1).isSome = true)
    (hg : ∀ cl C s₀ H₀ ex, PG (lcx X N' scope cl C s₀ H₀ ex) tg g) (ht : ∀ cl C s₀ H₀ ex, PIfs (lcx X N' scope cl C s₀ H₀ ex) ifs tc) (he : ∀ cl C s₀ H₀ ex, PE (lcx X N' scope cl C s₀ H₀ ex) kx tk) (hv : ∀ cl C s₀ H₀ ex, PE (lcx X N' scope cl C s₀ H₀ ex) vx tv)
    (I : Inv X pins σ H s) (T : Turn X.prog X.w X.K tg J fp it tn) (st : tn 0 s.heap) (hf : ∀ b ∈ fp, FpOk X pins H b)
    (hw : ∀ p, H p = none → DcGoal J p js g tc tk tv σ H Q) :
    wpAny (model X.prog X.w) X.A newDict (fun acc s₃ => wpAny (model X.prog X.w) X.A (newFunctionEnv scope X.env.globals cl [] X.env.qual none .none (some X.env)) (fun cenv s₄ =>
      codeAny (model X.prog X.w) X.A (.compStart (.DictComp kx vx [⟨tg, iter, ifs, 0⟩] scope pos) 0 (.ref it) acc { cenv with scope := relabel scope X.env })
        (fun r s' => r = .ok .next ∧ (∃ m, s'.heap.Ns cenv.locals m) ∧ ∃ v H', RelV v acc ∧ Inv X pins σ H' s' ∧ FpOk X pins H' cenv.locals ∧ Q v H') s₄) E s₃) E s := by
  have objs := T.obj _ _ st
  refine wpAny_newObj_type ?_
  -- the list
  obtain ⟨W, ⟨m0, w0⟩, turn⟩ := hw s.heap.objs.size (I.hok.fresh (Nat.le_refl _))
  generalize hp : s.heap.objs.size = p at *
  have kp : ∀ b u, s.heap.get? b = some u → (s.heap.push { cls := .type "dict", data := .dict #[] }).get? b = some u := fun b u e => Heap.get?_push_of_some _ e
  have I3 : Inv X pins σ (upd H p (.dK [])) { s with heap := s.heap.push { cls := .type "dict", data := .dict #[] } } := by
    subst hp
    exact I.laid (t' := s.toks) kp (Nat.le_refl _) (dk_empty s.heap I.big)
  have fne : ∀ b ∈ fp, b ≠ p := fun b hb => by
    obtain ⟨o, e, _⟩ := objs b hb
    have := Heap.lt_size e
    rw [← hp]
    exact Nat.ne_of_lt this
  have hf3 : ∀ b ∈ fp, FpOk X pins (upd H p (.dK [])) b := fun b hb => ⟨by rw [upd_ne (fne b hb)]; exact (hf b hb).1, (hf b hb).2⟩
  have st3 : tn 0 (s.heap.push { cls := .type "dict", data := .dict #[] }) := T.keep _ _ _ st fun b _ o e => kp b o e
  have lt3 : ∀ b ∈ fp, b < (s.heap.push { cls := .type "dict", data := .dict #[] }).objs.size := fun b hb => by
    obtain ⟨o, e, _⟩ := objs b hb
    exact Heap.lt_size (kp b o e)
  generalize hs3 : ({ s with heap := s.heap.push { cls := .type "dict", data := .dict #[] } } : Shared) = s3 at *
  have eh : s.heap.push { cls := .type "dict", data := .dict #[] } = s3.heap := by rw [← hs3]
  rw [eh] at st3 lt3
  refine wpAny_newFunctionEnv ok.ncell (by intro y hy; simp at hy) (fun h₁ hns₁ hsb₁ => ?_) ok.kind
  try dsimp only at hns₁ hsb₁ ⊢
  have k4 : ∀ b u, s3.heap.get? b = some u → h₁.get? b = some u := fun b u e => (hsb₁.2 b (Nat.ne_of_lt (Heap.lt_size e))).trans (Heap.get?_push_of_some _ e)
  have I4 := inv_block (cl := cl) (h₁ := h₁) (t' := s3.toks + ([] : List (Str × Value)).length) ok I3 h2 h3 hf3 lt3 k4 ⟨_, hns₁⟩
  have st4 : tn 0 h₁ := T.keep _ _ _ st3 fun b _ o e => k4 b o e
  generalize hX : lcx X N' scope cl s3.heap.objs.size s3 (upd H p (.dK [])) fp = X' at I4
  have hg' : PG X' tg g := by rw [← hX]; exact hg _ _ _ _ _
  have ht' : PIfs X' ifs tc := by rw [← hX]; exact ht _ _ _ _ _
  have he' : PE X' kx tk := by rw [← hX]; exact he _ _ _ _ _
  have hv' : PE X' vx tv := by rw [← hX]; exact hv _ _ _ _ _
  have eP : X'.prog = X.prog := by rw [← hX]; rfl
  have ew : X'.w = X.w := by rw [← hX]; rfl
  have eK : X'.K = X.K := by rw [← hX]; rfl
  have ec : X'.calm = true := by rw [← hX]; exact hc
  have eA : X'.A = X.A := by rw [← hX]; rfl
  have ex : X'.xe = fun _ _ => False := by rw [← hX]; rfl
  have eE : X'.env = compEnvC scope cl s3.heap.objs.size X.env := by rw [← hX]; rfl
  have eEx : X'.ex = fp := by rw [← hX]; rfl
  have eN : X'.pn = [] := by rw [← hX]; rfl
  -- the iterator's own objects, seen from within
  have stat : ∀ {H' : Hp}, (∀ b ∈ fp, H' b = none) → ∀ b ∈ fp, FpOk X' [] H' b := fun {H'} hn b hb => by
    have okc := I4.ok
    refine ⟨hn b hb, (okc.exf b (by rw [eEx]; exact hb)).1, okc.exfs b (by rw [eEx]; exact hb), .inl (by rw [eEx]; exact hb), (okc.exf b (by rw [eEx]; exact hb)).2, fun q hq => ?_⟩
    rw [eN] at hq
    cases hq
  have loop : ∀ s₄ : Shared, s₄ = { s3 with heap := h₁, toks := s3.toks + ([] : List (Str × Value)).length } →
      codeAny (model X.prog X.w) X.A (.compLoop (.DictComp kx vx [⟨tg, iter, ifs, 0⟩] scope pos) 0 (.ref it) (.ref p) (compEnvC scope cl s3.heap.objs.size X.env))
        (fun r s' => r = .ok .next ∧ (∃ m, s'.heap.Ns s3.heap.objs.size m) ∧ ∃ v H', RelV v (.ref p) ∧ Inv X pins σ H' s' ∧ FpOk X pins H' s3.heap.objs.size ∧ Q v H') s₄ := by
    rintro s₄ rfl
    refine compLoop_goD (fun n s' => ∃ i σ' ys H', Inv X' [] σ' H' s' ∧ tn i s'.heap ∧ (∀ b ∈ fp, H' b = none) ∧ W i n σ' ys H') ?_ m0 ⟨0, _, [], _, I4, st4, fun b hb => (hf3 b hb).1, w0⟩
    rintro n s5 ⟨i, σ5, ys, H5, I5, st5, fr5, w5⟩
    obtain ⟨hp5, tu⟩ := turn i n σ5 ys H5 w5
    rcases tu with ⟨stop, qn⟩ | ⟨go, hz, step⟩
    · have D := T.done X' eP ew eK ec i [] s5 σ5 H5 (fun _ _ => False) I5 (stat fr5) st5 stop
      rw [eA] at D
      refine thn D fun r s6 ⟨hr, I6⟩ => ?_
      subst hr
      refine ⟨rfl, ?_, .ref p, H5, rfl, ?_, ?_, qn⟩
      · obtain ⟨m, hm, _⟩ := I6.loc
        rw [eE] at hm
        exact ⟨m, hm⟩
      · have b6 := I6.base
        have ho := I6.os
        have hk := I6.hok
        have hb := I6.bare
        subst hX
        exact I3.call' (ch := fp) ho b6 hk hb fun b hb' => ⟨(hf b hb').2.2.2.1, (hf b hb').2.1, (hf b hb').2.2.2.2.1, (hf b hb').2.2.2.2.2⟩
      · have fr := I6.free
        rw [eE] at fr
        exact I3.fpOk (Nat.le_refl _) fr
    · have D := T.item X' eP ew eK ec i [] s5 σ5 H5 (fun _ _ => False) I5 (stat fr5) st5 go
      rw [eA] at D
      refine thn D fun r s6 ⟨u, hr, h6⟩ => ?_
      subst hr
      refine thn h6 fun _ s7 ⟨x, H7, I7, r7, y7, st7, fr7⟩ => ?_
      have I7' := I7.pinned (stat fr7) (T.obj _ _ st7)
      have G := hg' _ s7 σ5 H7 x u _ I7' r7 (step x H7 y7)
      rw [eP, ew, eA, ex, eE] at G
      refine thn G fun _ s8 ⟨σ8, H8, I8, q8⟩ => ?_
      have Tt := ht' _ s8 σ8 H8 _ I8 q8
      rw [eP, ew, eA, ex, eE] at Tt
      refine thn Tt fun b s9 ⟨H9, I9, q9⟩ => ?_
      have again : ∀ {s' : Shared} {ys' : List (Key × V)} {H' : Hp}, Inv X' ([] ++ pinsAt fp s7.heap) σ8 H' s' → (∃ m', m' < n ∧ W (i + 1) m' σ8 ys' H') →
          ∃ m, m < n ∧ ∃ i σ' ys H', Inv X' [] σ' H' s' ∧ tn i s'.heap ∧ (∀ b ∈ fp, H' b = none) ∧ W i m σ' ys H' := fun {s' ys' H'} I' ⟨m', hm, w'⟩ => by
        refine ⟨m', hm, i + 1, σ8, ys', H', I'.unpinned, T.keep _ _ _ st7 fun b hb o e => (I'.pin (b, o) (List.mem_append_right _ (List.mem_append_right _ (mem_pinsAt hb e)))).1, fun b hb => ?_, w'⟩
        obtain ⟨o, e, d⟩ := T.obj _ _ st7 b hb
        exact (I'.pin (b, o) (List.mem_append_right _ (List.mem_append_right _ (mem_pinsAt hb e)))).2.1
      cases b with
      | false => exact again I9 q9
      | true =>
        have Ee := he' _ s9 σ8 H9 _ I9 q9
        rw [eP, ew, eA, ex, eE] at Ee
        show wpAny _ _ _ _ _ _
        refine thn Ee fun kv s10 ⟨kk, H10, I10, r10, q10⟩ => ?_
        have Ev := hv' _ s10 σ8 H10 _ I10 q10
        rw [eP, ew, eA, ex, eE] at Ev
        refine thn Ev fun vv s11 ⟨y, H11, I11, r11, ky, ek, hp11, q11⟩ => ?_
        subst ek
        obtain ⟨z0, hd0, vs0, rel0, dd0⟩ := dk_of I11.hok hp11
        have hz0 : vs0.length ≤ sizeLine := by rw [← rel0.length]; exact z0
        have hl0 : (putK ys ky y).length ≤ sizeLine := by have := length_putK ys ky y; omega
        rw [eP, ew] at dd0
        refine wpAny_dictSet_pairs (hsz := hz0) (kV_is r10) dd0 fun h' dd' hs' => ?_
        have he0 : ∃ q, h'.get? p = some q := let ⟨q, _, _, hq, _⟩ := dd'; ⟨q, hq⟩
        have I12 := d_write (t' := s11.toks + 1) I11 (by rw [hp11]; exact True.intro) hs' he0 (dk_new hl0 hd0 (rel0.put ky r11) (by rw [eP, ew]; exact dd'))
        exact again I12 q11
  exact codeAny_compStart_dict (loop _ rfl) (T.self _ 0 _ _ _ st4 (loop _ rfl))
/-- {k: v for tg in iter if ..} as a value -/
theorem pe_dc (hc : X.calm = true) (ok : CapOk X N' js scope) (hi : PI X tg iter wi)
    (hg : ∀ cl C s₀ H₀ ex, PG (lcx X N' scope cl C s₀ H₀ ex) tg g) (ht : ∀ cl C s₀ H₀ ex, PIfs (lcx X N' scope cl C s₀ H₀ ex) ifs tc) (he : ∀ cl C s₀ H₀ ex, PE (lcx X N' scope cl C s₀ H₀ ex) kx tk) (hv : ∀ cl C s₀ H₀ ex, PE (lcx X N' scope cl C s₀ H₀ ex) vx tv)
    (hs : ∀ x, foldedSetIterable iter X.env x = pure x := by intro _; rfl) : PE X (.DictComp kx vx [⟨tg, iter, ifs, 0⟩] scope pos) (tDC wi js g tc tk tv) := by
  intro pins s σ H Q I h
  obtain ⟨cl, c1, c2, c3⟩ := clos_of (scope := scope) I.ok.has ok.free
  show wpAny _ X.A (comprehension (.DictComp kx vx [⟨tg, iter, ifs, 0⟩] scope pos) scope X.env _ newDict false (eval iter X.env)) _ _ s
  refine wpAny_comprehension_free (use := none) rfl hs c1 ok.kind ok.names (thn (hi pins s σ H _ I h) fun v s1 h1 => thn h1 fun itv s2 h2 => ?_)
  obtain ⟨it, fp, tn, J, H2, e, I2, T, st2, f2, hw⟩ := h2
  subst e
  refine wpAny_mono (dc_block (iter := iter) (pos := pos) hc ok c2 c3 hg ht he hv I2 T st2 f2 hw) (fun acc s3 h3 => wpAny_mono h3 (fun cenv s4 h4 => ?_) fun _ _ z => z) fun _ _ z => z
  refine codeAny_mono h4 fun r s5 h5 => ?_
  obtain ⟨rfl, ⟨m, hm⟩, v, H5, rv, I5, f5, q5⟩ := h5
  refine ⟨m, hm, fun h' sb => ?_⟩
  obtain ⟨f0, f1, _, f3, f4, f6⟩ := f5
  exact ⟨v, H5, I5.turned (t' := s5.toks) (fun b o hb e => (sb.2 b hb).trans e) f0 f1 f3 f4 f6, rv, q5⟩
end
end L2

set_option Elab.async false
set_option linter.all false
set_option maxRecDepth 100000
set_option exponentiation.threshold 2000
/-! zip of two tuples, walked by a target of names -/
namespace L2
open PySem PySem.Spec PyProof.Rows
section
variable {prog : Program} {w : World} {A : Around} {E : Value → Shared → Prop} {s : Shared}
/-- the tuple's iterator, asked by a built-in: an item -/
theorem nx_item {ti tp : Addr} {k : Nat} {vs : Array Value} {v : Value} {Q : Value → Shared → Prop} (hi : s.heap.IsTupleIter ti tp k) (ht : s.heap.IsTuple tp vs) (hv : vs[k]? = some v)
    (fin : ∀ g, g.IsTupleIter ti tp (k + 1) → Heap.SameBut ti s.heap g → Q v { s with heap := g }) : wpAny (model prog w) A (Builtin.SmallTypes.nextOf (.ref ti)) Q E s := by
  obtain ⟨oi, e1, c1, d1⟩ := id hi
  obtain ⟨ot, e2, _, nt, d2⟩ := ht
  unfold Builtin.SmallTypes.nextOf
  refine wpAny_bind (wpAny_callSpecial?_slot (name := Str.ofString "__next__") hi.typeIs PySem.F.slot_tuple_iterator_next (wpAny_call_entry PySem.F.slot_tuple_iterator_next hi.typeIs PySem.F.entry_tuple_iterator_next ?_ (PySem.F.args_tuple_iterator_next_1 _)))
  show wpAny _ _ (field (.ref ti) 0 >>= _) _ _ s
  refine wpAny_bind (wpAny_field e1 d1 (x := .ref tp) rfl ?_)
  show wpAny _ _ (if (Value.ref tp == Value.none) = true then _ else _) _ _ s
  rw [if_neg (show ¬ ((Value.ref tp == Value.none) = true) from Bool.false_ne_true)]
  show wpAny _ _ (field (.ref ti) 1 >>= _) _ _ s
  refine wpAny_bind (wpAny_field e1 d1 (x := .int k 0) rfl ?_)
  show wpAny _ _ (seqItems? (.ref tp) >>= _) _ _ s
  refine wpAny_bind (wpAny_seqItems e2 d2 ?_)
  simp only [Int.toNat_natCast, hv]
  refine wpAny_bind (wpAny_setField e1 d1 (by simp) (wpAny_pure ⟨v, rfl, wpAny_pure (fin _ ?_ (Heap.SameBut.update ..))⟩))
  exact ⟨_, Heap.get?_update_self _ e1 (Obj.isFreed_of_fields (Obj.data_mapFields d1 _)), (Obj.cls_mapFields ..).trans c1, by rw [Obj.data_mapFields d1]; simp [rawInt]⟩
/-- .. its end -/
theorem nx_end {ti tp : Addr} {k : Nat} {vs : Array Value} {Q : Value → Shared → Prop} (hh : A.handled = none) (hi : s.heap.IsTupleIter ti tp k) (ht : s.heap.IsTuple tp vs) (hv : vs[k]? = none)
    (fin : ∀ g e, Heap.ExtBut ti s.heap g → (∃ o, g.get? e = some o ∧ o.cls = .type "StopIteration") → E (.ref e) { s with heap := g }) : wpAny (model prog w) A (Builtin.SmallTypes.nextOf (.ref ti)) Q E s := by
  obtain ⟨oi, e1, c1, d1⟩ := id hi
  obtain ⟨ot, e2, _, nt, d2⟩ := ht
  unfold Builtin.SmallTypes.nextOf
  refine wpAny_bind (wpAny_callSpecial?_slot (name := Str.ofString "__next__") hi.typeIs PySem.F.slot_tuple_iterator_next (wpAny_call_entry PySem.F.slot_tuple_iterator_next hi.typeIs PySem.F.entry_tuple_iterator_next ?_ (PySem.F.args_tuple_iterator_next_1 _)))
  show wpAny _ _ (field (.ref ti) 0 >>= _) _ _ s
  refine wpAny_bind (wpAny_field e1 d1 (x := .ref tp) rfl ?_)
  show wpAny _ _ (if (Value.ref tp == Value.none) = true then _ else _) _ _ s
  rw [if_neg (show ¬ ((Value.ref tp == Value.none) = true) from Bool.false_ne_true)]
  show wpAny _ _ (field (.ref ti) 1 >>= _) _ _ s
  refine wpAny_bind (wpAny_field e1 d1 (x := .int k 0) rfl ?_)
  show wpAny _ _ (seqItems? (.ref tp) >>= _) _ _ s
  refine wpAny_bind (wpAny_seqItems e2 d2 ?_)
  simp only [Int.toNat_natCast, hv]
  refine wpAny_bind (wpAny_rule (wpAny_bind (wpAny_setField e1 d1 (by simp) ?_)))
  show wpAny _ _ (newExc (.type "StopIteration") [] >>= _) _ _ _
  refine wpAny_bind ?_
  simp only [newExc, newTuple]
  refine wpAny_bind (wpAny_newObj_type ?_ (by size_fits))
  refine wpAny_bind (m := firstArgMember _ _) (wpAny_of_eq (a := Value.none) (by first | rfl | (simp only [firstArgMember]; rfl)) ?_)
  refine wpAny_newObj_type ?_ (by size_fits)
  simp only [raiseNew]
  refine wpAny_bind (wpAny_handled ?_)
  first | rw [show A.in1.handled = none from hh] | rw [hh]
  refine wpAny_bind (wpAny_pure (wpAny_throw ?_))
  exact fin _ _ (((Heap.SameBut.update ..).extBut.push _).push _) ⟨_, Heap.get?_push_size _ rfl, rfl⟩
/-- the zip's own objects lie apart -/
structure ZA (z a b i j : Addr) : Prop where
  az : a ≠ z
  bz : b ≠ z
  iz : i ≠ z
  jz : j ≠ z
  ab : a ≠ b
  ai : a ≠ i
  aj : a ≠ j
  bi : b ≠ i
  bj : b ≠ j
  ij : i ≠ j
theorem tup_off {h h' : Heap} {t c : Addr} {vs : Array Value} (x : h.IsTuple t vs) (hs : Heap.SameBut c h h') (n : t ≠ c) : h'.IsTuple t vs := x.extBut hs.extBut n
theorem zt_item {z a b i j t1 t2 : Addr} {k1 k2 : Nat} {xs ys : Array Value} {x y p q : Value} {Q : Value → Shared → Prop} (D : ZA z a b i j) (n1 : t1 ≠ z ∧ t1 ≠ b ∧ t1 ≠ i ∧ t1 ≠ j) (n2 : t2 ≠ z ∧ t2 ≠ b ∧ t2 ≠ i ∧ t2 ≠ j)
    (hz : IsZip s.heap z a b .none) (ha : IsPair s.heap a (.ref i) (.ref j)) (hb : IsPair s.heap b p q) (h1 : s.heap.IsTupleIter i t1 k1) (h2 : s.heap.IsTupleIter j t2 k2) (g1 : s.heap.IsTuple t1 xs) (g2 : s.heap.IsTuple t2 ys) (hx : xs[k1]? = some x) (hy : ys[k2]? = some y)
    (fin : ∀ g, IsZip g z a b (rawInt s.heap.objs.size) → IsPair g b x y → g.IsTupleIter i t1 (k1 + 1) → g.IsTupleIter j t2 (k2 + 1) → IsPair g s.heap.objs.size x y →
      (∀ c o, c ≠ z → c ≠ b → c ≠ i → c ≠ j → s.heap.get? c = some o → g.get? c = some o) → Q (.ref s.heap.objs.size) { s with heap := g }) :
    wpAny (model prog w) A (Builtin.«zip.__next__» ⟨[.ref z], []⟩) (fun r s' => ∃ v, r = .done (.ret v) ∧ Q v s') E s := by
  show wpAny _ _ (field (.ref z) 2 >>= _) _ _ _
  refine wpAny_bind (wpAny_field hz rfl (x := .bool false) rfl ?_)
  show wpAny _ _ (field (.ref z) 3 >>= _) _ _ _
  refine wpAny_bind (wpAny_field hz rfl (x := .ref a) rfl ?_)
  refine wpAny_bind (wpAny_seqItems ha rfl ?_)
  show wpAny _ _ (Builtin.SmallTypes.ownedTupleIsFree (.ref z) >>= _) _ _ _
  refine wpAny_bind ?_
  unfold Builtin.SmallTypes.ownedTupleIsFree
  refine wpAny_bind (wpAny_field hz rfl (x := .none) rfl (wpAny_pure ?_))
  simp only [if_true]
  refine wpAny_bind (wpAny_rule ?_)
  refine wpAny_bind (wpAny_field hz rfl (x := .ref b) rfl ?_)
  refine wpAny_bind (wpAny_setField_rec hz (by simp) fun w1 z1 m1 => ?_)
  replace z1 : IsZip w1 z a b .ellipsis := z1
  refine wpAny_bind ?_
  simp only [List.zipIdx_cons, List.zipIdx_nil, List.forIn_cons, List.forIn_nil]
  refine wpAny_bind (wpAny_bind (wpAny_onRaise ?_))
  show wpAny _ _ (Builtin.SmallTypes.nextOf (.ref i) >>= _) _ _ _
  refine wpAny_bind (nx_item (h1.extBut m1.extBut D.iz) (tup_off g1 m1 n1.1) hx fun w2 i2 m2 => wpAny_pure ?_)
  have b2 : IsPair w2 b p q := m2.extBut _ _ D.bi (m1.extBut _ _ D.bz hb)
  refine wpAny_bind (wpAny_seqItems b2 rfl ?_)
  refine wpAny_bind (wpAny_updateSeq_pair b2 fun w3 b3 m3 => ?_)
  replace b3 : IsPair w3 b x q := b3
  refine wpAny_bind (wpAny_letGo (wpAny_pure ?_))
  refine wpAny_bind (wpAny_bind (wpAny_onRaise ?_))
  show wpAny _ _ (Builtin.SmallTypes.nextOf (.ref j) >>= _) _ _ _
  refine wpAny_bind (nx_item (((h2.extBut m1.extBut D.jz).extBut m2.extBut D.ij.symm).extBut m3.extBut D.bj.symm) (tup_off (tup_off (tup_off g2 m1 n2.1) m2 n2.2.2.1) m3 n2.2.1) hy fun w4 j4 m4 => wpAny_pure ?_)
  have b4 : IsPair w4 b x q := m4.extBut _ _ D.bj b3
  refine wpAny_bind (wpAny_seqItems b4 rfl ?_)
  refine wpAny_bind (wpAny_updateSeq_pair b4 fun w5 b5 m5 => ?_)
  replace b5 : IsPair w5 b x y := b5
  refine wpAny_bind (wpAny_letGo (wpAny_pure (wpAny_pure ?_)))
  refine wpAny_bind (wpAny_seqItems b5 rfl ?_)
  refine wpAny_bind (wpAny_newTuple ?_)
  have sz : w5.objs.size = s.heap.objs.size := by rw [m5.1, m4.1, m3.1, m2.1, m1.1]
  have z5 : IsZip w5 z a b .ellipsis := m5.extBut _ _ D.bz.symm (m4.extBut _ _ D.jz.symm (m3.extBut _ _ D.bz.symm (m2.extBut _ _ D.iz.symm z1)))
  have k5 : ∀ c o, c ≠ z → c ≠ b → c ≠ i → c ≠ j → s.heap.get? c = some o → w5.get? c = some o := fun c o c1 c2 c3 c4 e =>
    m5.extBut _ _ c2 (m4.extBut _ _ c4 (m3.extBut _ _ c2 (m2.extBut _ _ c3 (m1.extBut _ _ c1 e))))
  have i5 : w5.IsTupleIter i t1 (k1 + 1) := ((i2.extBut m3.extBut D.bi.symm).extBut m4.extBut D.ij).extBut m5.extBut D.bi.symm
  have j5 : w5.IsTupleIter j t2 (k2 + 1) := j4.extBut m5.extBut D.bj.symm
  have zlt : z < w5.objs.size := Heap.lt_size z5
  show wpAny _ _ (Builtin.SmallTypes.ownedTupleHandOut (.ref z) (.ref w5.objs.size) >>= _) _ _ _
  refine wpAny_bind ?_
  unfold Builtin.SmallTypes.ownedTupleHandOut
  have z6 : IsZip (w5.push { cls := .type "tuple", data := .seq #[x, y] }) z a b .ellipsis := Heap.get?_push_of_some _ z5
  refine wpAny_bind (wpAny_setField_rec z6 (by simp) fun w7 z7 m7 => ?_)
  replace z7 : IsZip w7 z a b (rawInt w5.objs.size) := z7
  refine wpAny_setField_rec z7 (by simp) fun w8 z8 m8 => ?_
  replace z8 : IsZip w8 z a b (rawInt w5.objs.size) := z8
  have up : ∀ c o, c ≠ z → w5.get? c = some o → w8.get? c = some o := fun c o c1 e => m8.extBut _ _ c1 (m7.extBut _ _ c1 (Heap.get?_push_of_some _ e))
  have t8 : IsPair w8 w5.objs.size x y := m8.extBut _ _ (Nat.ne_of_gt zlt) (m7.extBut _ _ (Nat.ne_of_gt zlt) (Heap.get?_push_size _ rfl))
  rw [sz] at z8 t8
  refine wpAny_pure ⟨_, rfl, ?_⟩
  show Q (.ref w5.objs.size) _
  rw [sz]
  obtain ⟨oi, ei, ri⟩ := i5
  obtain ⟨oj, ej, rj⟩ := j5
  exact fin w8 z8 (up _ _ D.bz b5) ⟨oi, up _ oi D.iz ei, ri⟩ ⟨oj, up _ oj D.jz ej, rj⟩ t8 fun c o c1 c2 c3 c4 e => up c o c1 (k5 c o c1 c2 c3 c4 e)
theorem zt_end {z a b i j t1 t2 : Addr} {k1 k2 : Nat} {xs ys : Array Value} {p q : Value} {Q : Fin → Shared → Prop} (hh : A.handled = none) (D : ZA z a b i j) (n1 : t1 ≠ z ∧ t1 ≠ b ∧ t1 ≠ i ∧ t1 ≠ j) (n2 : t2 ≠ z ∧ t2 ≠ b ∧ t2 ≠ i ∧ t2 ≠ j)
    (hz : IsZip s.heap z a b .none) (ha : IsPair s.heap a (.ref i) (.ref j)) (hb : IsPair s.heap b p q) (h1 : s.heap.IsTupleIter i t1 k1) (h2 : s.heap.IsTupleIter j t2 k2) (g1 : s.heap.IsTuple t1 xs) (g2 : s.heap.IsTuple t2 ys) (hend : xs[k1]? = none ∨ ys[k2]? = none)
    (fin : ∀ g e, (∀ c o, c ≠ z → c ≠ b → c ≠ i → c ≠ j → s.heap.get? c = some o → g.get? c = some o) → (∃ o, g.get? e = some o ∧ o.cls = .type "StopIteration") → E (.ref e) { s with heap := g }) :
    wpAny (model prog w) A (Builtin.«zip.__next__» ⟨[.ref z], []⟩) Q E s := by
  show wpAny _ _ (field (.ref z) 2 >>= _) _ _ _
  refine wpAny_bind (wpAny_field hz rfl (x := .bool false) rfl ?_)
  show wpAny _ _ (field (.ref z) 3 >>= _) _ _ _
  refine wpAny_bind (wpAny_field hz rfl (x := .ref a) rfl ?_)
  refine wpAny_bind (wpAny_seqItems ha rfl ?_)
  show wpAny _ _ (Builtin.SmallTypes.ownedTupleIsFree (.ref z) >>= _) _ _ _
  refine wpAny_bind ?_
  unfold Builtin.SmallTypes.ownedTupleIsFree
  refine wpAny_bind (wpAny_field hz rfl (x := .none) rfl (wpAny_pure ?_))
  simp only [if_true]
  refine wpAny_bind (wpAny_rule ?_)
  refine wpAny_bind (wpAny_field hz rfl (x := .ref b) rfl ?_)
  refine wpAny_bind (wpAny_setField_rec hz (by simp) fun w1 z1 m1 => ?_)
  replace z1 : IsZip w1 z a b .ellipsis := z1
  refine wpAny_bind ?_
  simp only [List.zipIdx_cons, List.zipIdx_nil, List.forIn_cons, List.forIn_nil]
  refine wpAny_bind (wpAny_bind (wpAny_onRaise ?_))
  show wpAny _ _ (Builtin.SmallTypes.nextOf (.ref i) >>= _) _ _ _
  cases hx : xs[k1]? with
  | none =>
    refine wpAny_bind (nx_end hh (h1.extBut m1.extBut D.iz) (tup_off g1 m1 n1.1) hx fun w2 e m2 he => ?_)
    obtain ⟨oe, e1, e2⟩ := he
    have z2 : IsZip w2 z a b .ellipsis := m2 _ _ D.iz.symm z1
    have ez : e ≠ z := fun u => by subst u; rw [z2] at e1; cases e1; simp at e2
    exact wpAny_setField_rec z2 (by simp) fun w3 _ m3 => fin w3 e (fun c o c1 _ c3 _ u => m3.extBut _ _ c1 (m2 _ _ c3 (m1.extBut _ _ c1 u))) ⟨oe, m3.extBut _ _ ez e1, e2⟩
  | some x =>
    have hy : ys[k2]? = none := by
      rcases hend with u | u
      · rw [hx] at u; cases u
      · exact u
    refine wpAny_bind (nx_item (h1.extBut m1.extBut D.iz) (tup_off g1 m1 n1.1) hx fun w2 i2 m2 => wpAny_pure ?_)
    have b2 : IsPair w2 b p q := m2.extBut _ _ D.bi (m1.extBut _ _ D.bz hb)
    refine wpAny_bind (wpAny_seqItems b2 rfl ?_)
    refine wpAny_bind (wpAny_updateSeq_pair b2 fun w3 b3 m3 => ?_)
    refine wpAny_bind (wpAny_letGo (wpAny_pure ?_))
    refine wpAny_bind (wpAny_bind (wpAny_onRaise ?_))
    show wpAny _ _ (Builtin.SmallTypes.nextOf (.ref j) >>= _) _ _ _
    refine wpAny_bind (nx_end hh (((h2.extBut m1.extBut D.jz).extBut m2.extBut D.ij.symm).extBut m3.extBut D.bj.symm) (tup_off (tup_off (tup_off g2 m1 n2.1) m2 n2.2.2.1) m3 n2.2.1) hy fun w4 e m4 he => ?_)
    obtain ⟨oe, e1, e2⟩ := he
    have z4 : IsZip w4 z a b .ellipsis := m4 _ _ D.jz.symm (m3.extBut _ _ D.bz.symm (m2.extBut _ _ D.iz.symm z1))
    have ez : e ≠ z := fun u => by subst u; rw [z4] at e1; cases e1; simp at e2
    exact wpAny_setField_rec z4 (by simp) fun w5 _ m5 => fin w5 e (fun c o c1 c2 c3 c4 u => m5.extBut _ _ c1 (m4 _ _ c4 (m3.extBut _ _ c2 (m2.extBut _ _ c3 (m1.extBut _ _ c1 u))))) ⟨oe, m5.extBut _ _ ez e1, e2⟩
end
end L2

set_option Elab.async false
set_option linter.all false
set_option maxRecDepth 100000
set_option exponentiation.threshold 2000
namespace L2
open PySem PySem.Spec PyProof.Rows
section
variable {X : Cx} {pins : List (Addr × Obj)} {σ : St} {H : Hp} {s : Shared} {h' : Heap}
/-- some records of ours have turned, and a new tuple stands -/
theorem Inv.newTup {T : Addr} {x y : V} {t' : Nat} (I : Inv X pins σ H s) (ch : List Addr) (hch : ∀ c ∈ ch, FpOk X pins H c) (keep : ∀ c o, c ∉ ch → s.heap.get? c = some o → h'.get? c = some o) (hT : s.heap.objs.size ≤ T)
    (tup : ∃ its : List Value, Vals [x, y] its ∧ IsTupP h' T its.toArray) : Inv X pins σ (upd H T (.tup [x, y])) { s with heap := h', toks := t' } := by
  have hn : H T = none := I.hok.fresh hT
  have neT : ∀ c o, s.heap.get? c = some o → c ≠ T := fun c o e => Nat.ne_of_lt (Nat.lt_of_lt_of_le (Heap.lt_size e) hT)
  have off : ∀ c u, H c = some u → c ∉ ch := fun c u e z => by rw [(hch c z).1] at e; cases e
  refine I.step (g' := s.gens) (d' := s.drawn) (ch := ch) (fun c hc => ⟨(hch c hc).2.2.2.1, (hch c hc).2.1, (hch c hc).2.2.2.2.1, (hch c hc).2.2.2.2.2⟩) (fun c o _ _ hc e _ => keep c o hc e) (fun c o _ _ hc e _ => ⟨o.slots, keep c o hc e⟩)
    (fun c o _ e n => by rw [upd_ne (neT c o e)]; exact n) (fun c o hc e => ⟨o, keep c o hc e⟩) (fun c xs e => by rw [upd_ne (ne_of_none e hn)]; exact e) (fun c o u e => by rw [upd_ne (ne_of_none e hn)]; exact e)
    (fun c ps e => ⟨#[], by rw [upd_ne (ne_of_none e hn), e]; simp⟩) (fun m hm => ?_) (fun c u e => ?_) I.bare
  · obtain ⟨o, es, ep, ho, r⟩ := hm
    exact ⟨o, es, ep, keep _ o (fun z => (hch _ z).2.1 rfl) ho, r⟩
  · by_cases hc : c = T
    · subst hc
      rw [upd_same] at e
      cases e
      obtain ⟨its, r, p⟩ := tup
      exact ⟨by show 2 ≤ sizeLine; decide, its, r, p⟩
    · rw [upd_ne hc] at e
      refine (I.hok c u e).stay (fun d v hd q => keep d v ?_ q) (fun d q => by rw [upd_ne (ne_of_none q hn)]; exact q) fun d xs q => by rw [upd_ne (ne_of_none q hn)]; exact q
      rcases hd with z | z
      · rw [z]; exact off c u e
      · exact off d _ z
/-- some records of ours have turned -/
theorem Inv.turnedN {t' : Nat} (I : Inv X pins σ H s) (ch : List Addr) (hch : ∀ c ∈ ch, FpOk X pins H c) (keep : ∀ c o, c ∉ ch → s.heap.get? c = some o → h'.get? c = some o) : Inv X pins σ H { s with heap := h', toks := t' } := by
  have off : ∀ c u, H c = some u → c ∉ ch := fun c u e z => by rw [(hch c z).1] at e; cases e
  refine I.step (g' := s.gens) (d' := s.drawn) (ch := ch) (fun c hc => ⟨(hch c hc).2.2.2.1, (hch c hc).2.1, (hch c hc).2.2.2.2.1, (hch c hc).2.2.2.2.2⟩) (fun c o _ _ hc e _ => keep c o hc e) (fun c o _ _ hc e _ => ⟨o.slots, keep c o hc e⟩)
    (fun c o _ e n => n) (fun c o hc e => ⟨o, keep c o hc e⟩) (fun c xs e => e) (fun c o u e => e) (fun c ps e => ⟨#[], by rw [e]; simp⟩) (fun m hm => ?_) (fun c u e => ?_) I.bare
  · obtain ⟨o, es, ep, ho, r⟩ := hm
    exact ⟨o, es, ep, keep _ o (fun z => (hch _ z).2.1 rfl) ho, r⟩
  · refine (I.hok c u e).stay (fun d v hd q => keep d v ?_ q) (fun _ q => q) fun _ _ q => q
    rcases hd with z | z
    · rw [z]; exact off c u e
    · exact off d _ z
theorem sqT_ne {t c : Addr} {xs : List V} (I : Inv X pins σ H s) (h : SqT X.K H t xs) (f : FpOk X pins H c) : t ≠ c := by
  intro e
  subst e
  rcases h with (h | ⟨o, h⟩) | ⟨o, its, n, hk, _⟩
  · rw [f.1] at h; cases h
  · rw [f.1] at h; cases h
  · have eb := I.ok.mod.kin t o hk
    rcases f.2.2.2.1 with z | z
    · exact I.ok.noex t o eb z
    · exact absurd (Nat.lt_of_lt_of_le (Heap.lt_size eb) (Nat.le_trans I.ok.bsz z)) (Nat.lt_irrefl _)
end
/-- two tuples side by side -/
def Itz (K : PySem.W.Frag) (t1 t2 : Addr) : It :=
  ⟨fun k H => ∃ (xs ys : List V) (x y : V), SqT K H t1 xs ∧ SqT K H t2 ys ∧ xs[k]? = some x ∧ ys[k]? = some y,
   fun k H v H' => ∃ p, v = .ref p ∧ H p = none ∧ ∀ (xs ys : List V) (x y : V), SqT K H t1 xs → SqT K H t2 ys → xs[k]? = some x → ys[k]? = some y → H' = upd H p (.tup [x, y]),
   fun k H => ∃ (xs ys : List V), SqT K H t1 xs ∧ SqT K H t2 ys ∧ (xs.length ≤ k ∨ ys.length ≤ k)⟩
theorem turn_zip {P : Program} {w : World} {K : PySem.W.Frag} {es : List Expr} {kk : Nat} {pos : Pos} (t1 t2 z a b i j : Addr) (D : ZA z a b i j) :
    Turn P w K (.Tuple es kk pos) (Itz K t1 t2) [z, a, b, i, j] z (fun k h => IsZip h z a b .none ∧ IsPair h a (.ref i) (.ref j) ∧ (∃ p q, IsPair h b p q) ∧ h.IsTupleIter i t1 k ∧ h.IsTupleIter j t2 k) where
  mem := by simp
  obj := fun k h st c hc => by
    obtain ⟨hz, ha, ⟨p, q, hb⟩, ⟨oi, ei, _, di⟩, ⟨oj, ej, _, dj⟩⟩ := st
    simp only [List.mem_cons, List.not_mem_nil, or_false] at hc
    rcases hc with rfl | rfl | rfl | rfl | rfl
    · exact ⟨_, hz, fun v e => by cases e⟩
    · exact ⟨_, ha, fun v e => by cases e⟩
    · exact ⟨_, hb, fun v e => by cases e⟩
    · exact ⟨oi, ei, fun v e => by rw [di] at e; cases e⟩
    · exact ⟨oj, ej, fun v e => by rw [dj] at e; cases e⟩
  keep := fun k h h' st kp => by
    obtain ⟨hz, ha, ⟨p, q, hb⟩, ⟨oi, ei, ri⟩, ⟨oj, ej, rj⟩⟩ := st
    exact ⟨kp z (by simp) _ hz, kp a (by simp) _ ha, ⟨p, q, kp b (by simp) _ hb⟩, ⟨oi, kp i (by simp) _ ei, ri⟩, ⟨oj, kp j (by simp) _ ej, rj⟩⟩
  item := by
    intro X hP hw hK hc k pins s σ H E I hf st hg
    subst hP hw hK
    obtain ⟨xs, ys, x, y, q1, q2, hx, hy⟩ := hg
    obtain ⟨hz, ha, ⟨p, q, hb⟩, h1, h2⟩ := st
    obtain ⟨its1, r1, g1, _⟩ := I.tuple q1
    obtain ⟨its2, r2, g2, _⟩ := I.tuple q2
    obtain ⟨u1, hu1, v1⟩ := r1.get hx
    obtain ⟨u2, hu2, v2⟩ := r2.get hy
    have fz := hf z (by simp)
    have fb := hf b (by simp)
    have fi := hf i (by simp)
    have fj := hf j (by simp)
    have hT : s.TypeIs (.ref z) "zip" := ⟨_, hz, rfl⟩
    unfold pyNext
    refine wpAny_bind (wpAny_attempt (wpAny_callSpecial?_slot (name := Str.ofString "__next__") hT PySem.F.slot_zip_next (wpAny_call_entry PySem.F.slot_zip_next hT PySem.F.entry_zip_next
      (zt_item D ⟨sqT_ne I q1 fz, sqT_ne I q1 fb, sqT_ne I q1 fi, sqT_ne I q1 fj⟩ ⟨sqT_ne I q2 fz, sqT_ne I q2 fb, sqT_ne I q2 fi, sqT_ne I q2 fj⟩ hz ha hb h1 h2 g1 g2 (by simpa using hu1) (by simpa using hu2) fun g a1 a2 a3 a4 a5 a6 => wpAny_pure ?_) (PySem.F.args_zip_next_1 _))))
    refine ⟨_, rfl, wpAny_letOwnedTupleGo_zip a1 fun g' z' m' => ?_⟩
    have zT : z ≠ s.heap.objs.size := Nat.ne_of_lt (Heap.lt_size hz)
    have up : ∀ c o, c ≠ z → g.get? c = some o → g'.get? c = some o := fun c o hc e => m'.extBut c o hc e
    have fr : H s.heap.objs.size = none := I.hok.fresh (Nat.le_refl _)
    have I1 : Inv X pins σ (upd H s.heap.objs.size (.tup [x, y])) { s with heap := g' } := by
      refine I.newTup (t' := s.toks) [z, b, i, j] (fun c hc => ?_) (fun c o hc e => ?_) (Nat.le_refl _) ⟨[u1, u2], .cons v1 (.cons v2 .nil), _, up _ _ zT.symm a5, rfl, rfl, _, rfl⟩
      · simp only [List.mem_cons, List.not_mem_nil, or_false] at hc
        rcases hc with rfl | rfl | rfl | rfl
        · exact fz
        · exact fb
        · exact fi
        · exact fj
      · simp only [List.mem_cons, List.not_mem_nil, or_false, not_or] at hc
        exact up c o hc.1 (a6 c o hc.1 hc.2.1 hc.2.2.1 hc.2.2.2 e)
    obtain ⟨oi, ei, ri⟩ := a3
    obtain ⟨oj, ej, rj⟩ := a4
    refine ⟨.ref s.heap.objs.size, _, I1, rfl, ⟨_, rfl, fr, fun xs' ys' x' y' s1 s2 e1 e2 => ?_⟩, ⟨z', up _ _ D.az (a6 a _ D.az D.ab D.ai D.aj ha), ⟨_, _, up _ _ D.bz a2⟩, ⟨oi, up _ _ D.iz ei, ri⟩, ⟨oj, up _ _ D.jz ej, rj⟩⟩, fun c hc => ?_⟩
    · rw [I.tuple_inj s1 q1, hx] at e1
      rw [I.tuple_inj s2 q2, hy] at e2
      cases e1
      cases e2
      rfl
    · have fc := hf c hc
      have : c ≠ s.heap.objs.size := by
        simp only [List.mem_cons, List.not_mem_nil, or_false] at hc
        obtain ⟨oi', ei', _⟩ := h1
        obtain ⟨oj', ej', _⟩ := h2
        rcases hc with rfl | rfl | rfl | rfl | rfl
        · exact zT
        · exact Nat.ne_of_lt (Heap.lt_size ha)
        · exact Nat.ne_of_lt (Heap.lt_size hb)
        · exact Nat.ne_of_lt (Heap.lt_size ei')
        · exact Nat.ne_of_lt (Heap.lt_size ej')
      rw [upd_ne this]
      exact fc.1
  done := by
    intro X hP hw hK hc k pins s σ H E I hf st hg
    subst hP hw hK
    obtain ⟨xs, ys, q1, q2, hend⟩ := hg
    obtain ⟨hz, ha, ⟨p, q, hb⟩, h1, h2⟩ := st
    obtain ⟨its1, r1, g1, _⟩ := I.tuple q1
    obtain ⟨its2, r2, g2, _⟩ := I.tuple q2
    have l1 := r1.length
    have l2 := r2.length
    have fz := hf z (by simp)
    have fb := hf b (by simp)
    have fi := hf i (by simp)
    have fj := hf j (by simp)
    have hT : s.TypeIs (.ref z) "zip" := ⟨_, hz, rfl⟩
    unfold pyNext
    refine wpAny_bind (wpAny_attempt (wpAny_callSpecial?_slot (name := Str.ofString "__next__") hT PySem.F.slot_zip_next (wpAny_call_entry PySem.F.slot_zip_next hT PySem.F.entry_zip_next
      (zt_end (I.ok.hd hc) D ⟨sqT_ne I q1 fz, sqT_ne I q1 fb, sqT_ne I q1 fi, sqT_ne I q1 fj⟩ ⟨sqT_ne I q2 fz, sqT_ne I q2 fb, sqT_ne I q2 fi, sqT_ne I q2 fj⟩ hz ha hb h1 h2 g1 g2 ?_ fun g e kp he => ?_) (PySem.F.args_zip_next_1 _))))
    · rcases hend with u | u
      · exact .inl (by simp; omega)
      · exact .inr (by simp; omega)
    · obtain ⟨o, ho, hcl⟩ := he
      refine wpAny_bind (wpAny_isInstance (T := "StopIteration") (b := true) ⟨o, ho, hcl⟩ isSubtype_stop ?_)
      refine wpAny_pure ⟨rfl, I.turnedN (t' := s.toks) [z, b, i, j] (fun c hc => ?_) (fun c o hc e => ?_)⟩
      · simp only [List.mem_cons, List.not_mem_nil, or_false] at hc
        rcases hc with rfl | rfl | rfl | rfl
        · exact fz
        · exact fb
        · exact fi
        · exact fj
      · simp only [List.mem_cons, List.not_mem_nil, or_false, not_or] at hc
        exact kp c o hc.1 hc.2.1 hc.2.2.1 hc.2.2.2 e
  self := fun _ _ _ _ _ st h => wpAny_pyIter_zip st.1 h
end L2

set_option Elab.async false
set_option linter.all false
set_option maxRecDepth 100000
set_option exponentiation.threshold 2000
namespace L2
open PySem PySem.Spec PyProof.Rows
abbrev zw1 (h : Heap) (t : Addr) : Heap := h.push { cls := .type "tuple_iterator", data := .fields #[.ref t, .int 0 0] }
abbrev zw2 (h : Heap) (t u : Addr) : Heap := (zw1 h t).push { cls := .type "tuple_iterator", data := .fields #[.ref u, .int 0 0] }
abbrev zw3 (h : Heap) (t u : Addr) : Heap := (zw2 h t u).push { cls := .type "tuple", data := .seq #[.ref h.objs.size, .ref (zw1 h t).objs.size] }
abbrev zw4 (h : Heap) (t u : Addr) : Heap := (zw3 h t u).push { cls := .type "tuple", data := .seq #[.none, .none] }
abbrev zw5 (h : Heap) (t u : Addr) : Heap := (zw4 h t u).push { cls := .type "zip", data := .fields #[.none, .bool false, .bool false, .ref (zw2 h t u).objs.size, .ref (zw3 h t u).objs.size] }
theorem zt_new (t u : Addr) (xs ys : Array Value) : Meets (Builtin.«zip.__new__» ⟨[.type "zip", .ref t, .ref u], []⟩) (fun _ R s => s.heap.IsTuple t xs ∧ s.heap.IsTuple u ys ∧
      R (.ok (.ret (.ref (zw4 s.heap t u).objs.size))) { s with heap := zw5 s.heap t u }) :=
  .of_wp fun prog w A R s h => by
    obtain ⟨hp, g, d, tk, os⟩ := s; obtain ⟨g1, g2, h⟩ := h
    have f0 := sub_zip
    have f1 : Heap.IsTuple (Shared.heap ⟨hp, g, d, tk, os⟩) t xs := g1
    have f2 : Heap.IsTuple (Shared.heap ⟨hp.push { cls := .type "tuple_iterator", data := .fields #[.ref t, .int 0 0] }, g, d, tk, os⟩) u ys := Heap.IsTuple.push g2 _
    wp_walk using wpAny_pyIter_tuple f1, wpAny_pyIter_tuple f2
    exact ⟨_, rfl, h⟩
theorem bt_zip : bootBuiltins "zip" = some (.type "zip") := by decide +kernel
section
variable {X : Cx}
def iZip (K : PySem.W.Frag) (ta : TA) : TI := fun σ H R => ta σ H fun vs H1 => ∃ t u, vs = [.ref t, .ref u] ∧ (∃ xs, SqT K H1 t xs) ∧ (∃ ys, SqT K H1 u ys) ∧ R (Itz K t u) H1
theorem pi_zip {es : List Expr} {kk : Nat} {tpos : Pos} {a b : Expr} {ta : TA} {p pos : Pos} (hg : Gl X "zip") (hm : X.mg "zip" = none) (ha : PA X [a, b] ta)
    (he : starEach [a, b] X.env = (false, eval a X.env) :: starEach [b] X.env := by rfl) (hpl : (backTo pos (starEach [b] X.env)).any (·.1) = false := by rfl) :
    PI X (.Tuple es kk tpos) (.Call (.Name "zip" p) [a, b] [] pos) (iZip X.K ta) := by
  intro pins s σ H R I h
  refine wpAny_Call_Name_kw (ld_blt I hg hm bt_zip ?_ (by decide) (by decide))
  refine PyProof.Rows.callWith_type1 (thn (ha pos pins s σ H _ I h) fun us s1 ⟨vs, H1, I1, r1, t, u, e, ⟨xs, q1⟩, ⟨ys, q2⟩, q⟩ => ?_) he hpl
  subst e
  obtain ⟨u1, u2, rfl, v1, v2⟩ := vals2 r1
  cases v1
  cases v2
  obtain ⟨its1, rv1, g1, _⟩ := I1.tuple q1
  obtain ⟨its2, rv2, g2, _⟩ := I1.tuple q2
  refine callType_new PySem.F.called_zip (by decide) (PySem.F.typeCall_zip_2 _ _) (PySem.F.newCall_zip_2 _ _) (fun obj => PySem.F.args_object_init_3 obj _ _) PySem.F.entry_zip_new (zt_new t u its1.toArray its2.toArray) ⟨g1, g2, ?_⟩
  have y1 : (zw1 s1.heap t).objs.size = s1.heap.objs.size + 1 := Heap.size_push ..
  have y2 : (zw2 s1.heap t u).objs.size = s1.heap.objs.size + 2 := by rw [Heap.size_push, y1]
  have y3 : (zw3 s1.heap t u).objs.size = s1.heap.objs.size + 3 := by rw [Heap.size_push, y2]
  have y4 : (zw4 s1.heap t u).objs.size = s1.heap.objs.size + 4 := by rw [Heap.size_push, y3]
  have k5 : ∀ c o, s1.heap.get? c = some o → (zw5 s1.heap t u).get? c = some o := fun c o e => Heap.get?_push_of_some _ (Heap.get?_push_of_some _ (Heap.get?_push_of_some _ (Heap.get?_push_of_some _ (Heap.get?_push_of_some _ e))))
  have e5 : (zw5 s1.heap t u).get? (zw4 s1.heap t u).objs.size = some _ := Heap.get?_push_size _ rfl
  have e4 : (zw5 s1.heap t u).get? (zw3 s1.heap t u).objs.size = some _ := Heap.get?_push_of_some _ (Heap.get?_push_size _ rfl)
  have e3 : (zw5 s1.heap t u).get? (zw2 s1.heap t u).objs.size = some _ := Heap.get?_push_of_some _ (Heap.get?_push_of_some _ (Heap.get?_push_size _ rfl))
  have e2 : (zw5 s1.heap t u).get? (zw1 s1.heap t).objs.size = some _ := Heap.get?_push_of_some _ (Heap.get?_push_of_some _ (Heap.get?_push_of_some _ (Heap.get?_push_size _ rfl)))
  have e1 : (zw5 s1.heap t u).get? s1.heap.objs.size = some _ := Heap.get?_push_of_some _ (Heap.get?_push_of_some _ (Heap.get?_push_of_some _ (Heap.get?_push_of_some _ (Heap.get?_push_size _ rfl))))
  have I2 : Inv X pins σ H1 { s1 with heap := zw5 s1.heap t u } := I1.kept (t' := s1.toks) k5
  have fp : ∀ c, s1.heap.objs.size ≤ c → FpOk X pins H1 c := fun c hc => I1.fpOk hc (I1.hok.fresh hc)
  have D : ZA (zw4 s1.heap t u).objs.size (zw2 s1.heap t u).objs.size (zw3 s1.heap t u).objs.size s1.heap.objs.size (zw1 s1.heap t).objs.size := by
    have n4 : (zw3 s1.heap t u).objs.size < (zw4 s1.heap t u).objs.size := by rw [y3, y4]; exact Nat.lt_succ_self _
    have n3 : (zw2 s1.heap t u).objs.size < (zw3 s1.heap t u).objs.size := by rw [y2, y3]; exact Nat.lt_succ_self _
    have n2 : (zw1 s1.heap t).objs.size < (zw2 s1.heap t u).objs.size := by rw [y1, y2]; exact Nat.lt_succ_self _
    have n1 : s1.heap.objs.size < (zw1 s1.heap t).objs.size := by rw [y1]; exact Nat.lt_succ_self _
    exact ⟨Nat.ne_of_lt (Nat.lt_trans n3 n4), Nat.ne_of_lt n4, Nat.ne_of_lt (Nat.lt_trans n1 (Nat.lt_trans n2 (Nat.lt_trans n3 n4))), Nat.ne_of_lt (Nat.lt_trans n2 (Nat.lt_trans n3 n4)), Nat.ne_of_lt n3, Nat.ne_of_gt (Nat.lt_trans n1 n2), Nat.ne_of_gt n2,
      Nat.ne_of_gt (Nat.lt_trans n1 (Nat.lt_trans n2 n3)), Nat.ne_of_gt (Nat.lt_trans n2 n3), Nat.ne_of_lt n1⟩
  refine ⟨⟨_, e5, rfl⟩, wpAny_pyIter_zip e5 ?_⟩
  refine ⟨_, _, _, _, H1, rfl, I2, turn_zip t u _ _ _ _ _ D, ⟨e5, e3, ⟨_, _, e4⟩, ⟨_, e1, rfl, rfl⟩, ⟨_, e2, rfl, rfl⟩⟩, fun c hc => fp c ?_, q⟩
  simp only [List.mem_cons, List.not_mem_nil, or_false] at hc
  rcases hc with rfl | rfl | rfl | rfl | rfl
  · rw [y4]; exact Nat.le_add_right _ _
  · rw [y2]; exact Nat.le_add_right _ _
  · rw [y3]; exact Nat.le_add_right _ _
  · exact Nat.le_refl _
  · rw [y1]; exact Nat.le_add_right _ _
end
end L2

set_option Elab.async false
set_option linter.all false
set_option maxRecDepth 100000
set_option exponentiation.threshold 2000
namespace L2
open PySem PySem.Spec PyProof.Rows
section
variable {X : Cx} {tg iter kx vx : Expr} {ifs : List Expr} {wi : TI} {js : Cap} {g : TG} {tc : TT} {tk tv : TE} {N' : List Str} {scope : Scope} {pos : Pos}
/-- name = {k: v for tg in iter if ..}: stored ahead of the block's end -/
theorem ps_setDC {i : Nat} {x : Str} {px : Pos} {spos : Pos} (hN : X.N.Nodup) (hi' : X.N[i]? = some x) (hx : Loc X.env.scope x) (hc : X.calm = true) (ok : CapOk X N' js scope) (hi : PI X tg iter wi)
    (hg : ∀ cl C s₀ H₀ ex, PG (lcx X N' scope cl C s₀ H₀ ex) tg g) (ht : ∀ cl C s₀ H₀ ex, PIfs (lcx X N' scope cl C s₀ H₀ ex) ifs tc) (he : ∀ cl C s₀ H₀ ex, PE (lcx X N' scope cl C s₀ H₀ ex) kx tk) (hv : ∀ cl C s₀ H₀ ex, PE (lcx X N' scope cl C s₀ H₀ ex) vx tv)
    (hsw : swapsWith (.DictComp kx vx [⟨tg, iter, ifs, 0⟩] scope pos) (some (.Name x px)) spos.line X.env = pure true := by rfl)
    (hs : ∀ x, foldedSetIterable iter X.env x = pure x := by intro _; rfl) (hf : X.fn x = true ∨ X.env.scope.names.lookup x = some .local := by first | exact .inl rfl | exact .inr rfl | assumption) :
    PS X (.Assign [.Name x px] (.DictComp kx vx [⟨tg, iter, ifs, 0⟩] scope pos) spos) (tAsg (tDC wi js g tc tk tv) (gName i)) := by
  intro pins s σ H D I h
  obtain ⟨cl, c1, c2, c3⟩ := clos_of (scope := scope) I.ok.has ok.free
  rw [exec_Assign_Name_used _ _ _ _ hsw]
  refine wpAny_bind (wpAny_standAt (wpAny_bind ?_))
  show wpAny _ X.A (do let _ ← comprehension (.DictComp kx vx [⟨tg, iter, ifs, 0⟩] scope pos) scope X.env _ newDict false (eval iter X.env) (some (assign (.Name x px) X.env))) _ _ s
  refine wpAny_bind (wpAny_mono (wpAny_comprehension_free (use := some (assign (.Name x px) X.env)) (Q := fun _ s' => SP X pins D .next s') rfl hs c1 ok.kind ok.names
    (thn (hi pins s σ H _ I h) fun v s1 h1 => thn h1 fun itv s2 h2 => ?_)) (fun _ s' hq => wpAny_pure (wpAny_pure hq)) fun _ _ e => e)
  obtain ⟨it, fp, tn, J, H2, e, I2, T, st2, f2, hw⟩ := h2
  subst e
  refine wpAny_mono (dc_block (Q := fun x H1 => gName i x σ H1 D.nx) (iter := iter) (pos := pos) hc ok c2 c3 hg ht he hv I2 T st2 f2 hw) (fun acc s3 h3 => wpAny_mono h3 (fun cenv s4 h4 => ?_) fun _ _ z => z) fun _ _ z => z
  refine codeAny_mono h4 fun r s5 h5 => ?_
  obtain ⟨rfl, ⟨m, hm⟩, v, H5, rv, I5, f5, q5⟩ := h5
  obtain ⟨f0, f1, f2', f3, f4, f6⟩ := f5
  show wpAny _ X.A (assign (.Name x px) X.env acc) _ _ _
  refine wpAny_assign_Name (store_ok2 I5 hN hi' hx rv (fun s6 I6 ch => ?_) hf)
  obtain ⟨a, sb, ha⟩ := ch
  have na : cenv.locals ≠ a := by
    rcases ha with z | z
    · rw [z]; exact f1
    · exact fun y => f4 x a z y.symm
  refine ⟨m, hm.sameBut sb na, fun h' sb' => ⟨_, H5, I6.turned (t' := s6.toks) (fun b o hb e => (sb'.2 b hb).trans e) f0 f1 f3 f4 f6, q5⟩⟩
end
end L2

set_option Elab.async false
set_option linter.all false
set_option maxRecDepth 100000
set_option exponentiation.threshold 2000
namespace L2
open PySem PySem.Spec PyProof.Rows
section
variable {prog : Program} {w : World} {A : Around} {E : Value → Shared → Prop} {s : Shared}
/-- t[lo:hi] that is the whole of t is t itself -/
theorem cut_whole {t sl : Addr} {items : Array Value} {vl vu : Value} {lo hi : Option Int} {Q : Value → Shared → Prop} (ht : IsTup s.heap t items) (hs : s.heap.IsSliceOf sl vl vu .none) (pl : IsPart vl lo) (pu : IsPart vu hi)
    (h0 : HT.sIx items.size 0 lo = 0) (h1 : HT.sIx items.size items.size hi = items.size) (h : Q (.ref t) s) : wpAny (model prog w) A (getItem (.ref t) (.ref sl)) Q E s := by
  obtain ⟨os, hos, hcs, hds⟩ := id hs
  have hTs : s.TypeIs (.ref sl) "slice" := ⟨os, hos, hcs⟩
  unfold getItem
  try with_reducible refine wpAny_holding ?_
  first | refine wpAny_bind (wpAny_pure ?_) | skip
  refine wpAny_bind (wpAny_sequenceKey ht.typeIs (by decide) ?_)
  refine wpAny_bind (wpAny_callSpecial?_slot (name := Str.ofString "__getitem__") ht.typeIs PyProof.Rows.slot_tuple_getitem
    (wpAny_call_entry PyProof.Rows.slot_tuple_getitem ht.typeIs PySem.F.entry_tuple_getitem ?_ (PySem.F.args_tuple_getitem_2 _ _)))
  show wpAny _ _ (Builtin.Tuple.tupleItemsOf (.ref t) >>= _) _ _ s
  refine wpAny_bind (tupleItemsOf_ ht ?_)
  refine wpAny_bind (wpAny_typeOf hTs ?_)
  rw [if_pos (by decide)]
  refine wpAny_bind (HT.sliceApplied_gen hs pl pu ?_)
  have yes : ((((HT.sIx items.size 0 lo : Nat) : Int) == 0 && (1 : Int) == 1 && (HT.sIx items.size items.size hi - HT.sIx items.size 0 lo) == items.size) = true) := by
    rw [h0, h1]
    simp
  show wpAny _ _ (if (((HT.sIx items.size 0 lo : Nat) : Int) == 0 && (1 : Int) == 1 && (HT.sIx items.size items.size hi - HT.sIx items.size 0 lo) == items.size) = true then _ else _) _ _ s
  rw [if_pos yes]
  unfold Builtin.Tuple.tupleIsExact
  refine wpAny_bind (wpAny_bind (wpAny_typeOf ht.typeIs (wpAny_pure ?_)))
  rw [if_pos (by decide)]
  exact wpAny_bind (wpAny_rule (wpAny_pure ⟨_, rfl, wpAny_pure h⟩))
end
section
variable {X : Cx}
/-- t[lo:hi] of a tuple: the whole is t itself, else a new one -/
def rSlW (K : PySem.W.Frag) : V → Option Int → Option Int → Hp → VK → Prop := fun x lo hi H Q => ∃ a xs, x = .ref a ∧ SqT K H a xs ∧
  (HT.sIx xs.length 0 lo = 0 ∧ HT.sIx xs.length xs.length hi = xs.length → Q (.ref a) H) ∧
  (¬ (HT.sIx xs.length 0 lo = 0 ∧ HT.sIx xs.length xs.length hi = xs.length) → ∀ p, H p = none → Q (.ref p) (upd H p (.tup (cutV xs lo hi))))
theorem sl_tupW : SlR X (rSlW X.K) := by
  intro pins s σ H x v vl vu lo hi sl Q I rx hs pl pu h
  obtain ⟨a, xs, rfl, hx, q1, q2⟩ := h
  by_cases hw : HT.sIx xs.length 0 lo = 0 ∧ HT.sIx xs.length xs.length hi = xs.length
  · cases rx
    obtain ⟨its, r, ht, hz⟩ := I.tuple hx
    have hlen : its.toArray.size = xs.length := by rw [List.size_toArray]; exact r.length.symm
    refine ⟨"tuple", _, PyProof.Rows.slot_tuple_getitem.lookup, ht.typeIs, ?_⟩
    exact cut_whole ht hs pl pu (by rw [hlen]; exact hw.1) (by rw [hlen]; exact hw.2) ⟨.ref a, H, I, rfl, q1 hw⟩
  · exact sl_tup pins s σ H (.ref a) v vl vu lo hi sl Q I rx hs pl pu ⟨a, xs, rfl, hx, hw, q2 hw⟩
/-- t[1:] -/
theorem sl_tail {K : PySem.W.Frag} {H : Hp} {a : Addr} {xs : List V} {Q : VK} (h : SqT K H a xs) (q : ∀ p H', Same H H' → SqT K H' p (xs.drop 1) → Q (.ref p) H') : rSlW K (.ref a) (some 1) none H Q := by
  have e0 : HT.sIx xs.length 0 (some 1) = min 1 xs.length := HT.sIx_nat _ _ 1
  refine ⟨a, xs, rfl, h, fun hw => ?_, fun hw p hp => ?_⟩
  · rw [e0] at hw
    have hl : xs.length = 0 := by omega
    have hx : xs = [] := List.length_eq_zero_iff.mp hl
    subst hx
    exact q a H (Same.refl _) h
  · refine q p _ (same_new hp _) (SqT.of ?_)
    rw [upd_same]
    unfold cutV
    rw [e0, show HT.sIx xs.length xs.length none = xs.length from rfl]
    cases xs with
    | nil => rfl
    | cons x r =>
      have e1 : min 1 (x :: r).length = 1 := by rw [List.length_cons]; omega
      rw [e1]
      congr 2
      rw [List.length_cons, Nat.add_sub_cancel]
      exact List.take_of_length_le (by simp)
end
end L2

set_option Elab.async false
set_option linter.all false
set_option maxRecDepth 100000
set_option exponentiation.threshold 2000
/-! the same rules where the context is a block's: the written part by its own letter -/
namespace L2
open PySem PySem.Spec PyProof.Rows
section
variable {X : Cx} {K : PySem.W.Frag}
theorem ix_tupK (K : PySem.W.Frag) (h : X.K = K) : IxR X (rIxT K) := by subst h; exact ix_tup
theorem pg_tupK (K : PySem.W.Frag) (h : X.K = K) {es : List Expr} {k : Nat} {t : TGs} {n : Nat} {pos : Pos} (hc : X.calm = true) (hg : PGs X es t)
    (hn : (assignEach es X.env).length = n := by rfl) (hst : (assignEach es X.env).findIdx? (·.1) = none := by rfl) : PG X (.Tuple es k pos) (gTup K n t) := by subst h; exact pg_tup hc hg hn hst
end
/-- a comprehension over two tuples side by side -/
theorem lc_zip {K : PySem.W.Frag} {t1 t2 p : Addr} {xs ys : List V} {g : TG} {tc : TT} {te : TE} {σ : St} {H : Hp} {Q : VK} {js : Cap} {n : Nat} (h1 : n ≤ xs.length) (h2 : n ≤ ys.length) (h3 : xs.length ≤ n ∨ ys.length ≤ n) (Pv : Nat → St → List V → Hp → Prop) (h0 : Pv 0 (inn js σ) [] (upd H p (.lst [])))
    (hl : ∀ i σ zs H, i ≤ n → Pv i σ zs H → SqT K H t1 xs ∧ SqT K H t2 ys ∧ H p = some (.lst zs) ∧ zs.length < sizeLine)
    (hs : ∀ (i : Nat) x y σ zs H q (N : St → List V → Hp → Prop), xs[i]? = some x → ys[i]? = some y → H q = none → Pv i σ zs H → (∀ σ' ys' H', Pv (i + 1) σ' ys' H' → N σ' ys' H') → LcTurn p g tc te zs (.ref q) σ (upd H q (.tup [x, y])) N)
    (hd : ∀ σ zs H, Pv n σ zs H → Q (.ref p) H) : LcGoal (Itz K t1 t2) p js g tc te σ H Q :=
  lc_gen (n := n) (J := Itz K t1 t2) (js := js) (σ := σ) (H := H) (p := p) (Q := Q) (g := g) (tc := tc) (te := te) Pv h0 (fun i σ zs H hi pv => (hl i σ zs H hi pv).2.2)
    (fun i σ zs H hi pv => ⟨xs, ys, xs[i], ys[i], (hl i σ zs H (Nat.le_of_lt hi) pv).1, (hl i σ zs H (Nat.le_of_lt hi) pv).2.1, by simp, by simp⟩)
    (fun σ zs H pv => ⟨xs, ys, (hl _ σ zs H (Nat.le_refl _) pv).1, (hl _ σ zs H (Nat.le_refl _) pv).2.1, h3⟩)
    (fun i v σ zs H H' N hi y pv hN => by
      obtain ⟨q, e, hq, y⟩ := y
      subst e
      have ex : xs[i]? = some xs[i] := by simp
      have ey : ys[i]? = some ys[i] := by simp
      have e2 := y xs ys _ _ (hl i σ zs H (Nat.le_of_lt hi) pv).1 (hl i σ zs H (Nat.le_of_lt hi) pv).2.1 ex ey
      subst e2
      exact hs i _ _ σ zs H q N ex ey hq pv hN) hd
end L2

set_option Elab.async false
set_option linter.all false
set_option maxRecDepth 100000
set_option exponentiation.threshold 2000
/-! dict(t), t a tuple of pairs with keys ints and texts -/
namespace L2
open PySem PySem.Spec PyProof.Rows
theorem lk_tuple_keys : typeLookup (.type "tuple") "keys" = pure none := by rw [typeLookup_type, builtinLookup_eq_fast]; kernel_rfl
set_option maxHeartbeats 4000000 in
/-- a tuple has no keys: asked quietly -/
theorem tup_no_keys {prog : Program} {w : World} {A : Around} {E : Value → Shared → Prop} {a : Addr} {its : Array Value} {n : Nat} {sl : Array (Option Value)} {h : Heap} {g d t os} {Q : Option Value → Shared → Prop}
    (hh : A.handled = none) (hx : h.get? a = some { cls := .type "tuple", dict := none, data := .seq its n, slots := sl })
    (q : ∀ h' tk, (∀ b o, h.get? b = some o → h'.get? b = some o) → Q none ⟨h', g, d, tk, os⟩) : wpAny (model prog w) A (getAttr? (.ref a) "keys") Q E ⟨h, g, d, t, os⟩ := by
  have y0 : ∀ tk', (⟨h, g, d, tk', os⟩ : Shared).TypeIs (.ref a) "tuple" := fun _ => ⟨_, hx, rfl⟩
  have y1 := sub_AttributeError
  have y2 := F.slot_tuple_getattribute.lookup
  have y3 := F.slot_tuple_getattribute.bind (.ref a)
  have y4 := am_tuple_getattr_none
  unfold getAttr? getAttrBy? getAttrBy
  repeat (any_goals (first
    | assumption
    | exact y0 _
    | ((with_reducible show wpAny _ _ (call (Value.builtin "tuple.__getattribute__") _ _) _ _ _)
       refine call_meets F.slot_tuple_getattribute (y0 _) am_entry_tuple_getattribute (F.args_tuple_getattribute_2 _ _) (meets_getattribute_miss_tuple a its n sl "keys" _ lk_tuple_keys (by decide +kernel)) ⟨hx, hh, fun h' tk' e hx' => ?_⟩)
    | wp_step))
  obtain ⟨t', u', he⟩ := hx'.there
  show wpAny _ _ (getattributeRaised _ _ _ _ _ _ _) _ _ _
  unfold getattributeRaised
  repeat (any_goals (first | assumption | wp_step))
  exact q _ _ hx'.keeps
theorem mro_dict0 : mroOf (.type "dict") = pure [.type "dict", .type "object"] := by rw [mroOf_type]; kernel_rfl
theorem lk_dict_new : typeLookup (.type "dict") "__new__" = pure (some (.builtin "dict.__new__")) := by rw [typeLookup_type, builtinLookup_eq_fast]; kernel_rfl
theorem sub_dict0 : isSubtype (.type "dict") (.type "dict") = pure true := by rw [isSubtype_type]; kernel_rfl
theorem called_dict0 : TypeCalled "dict" "dict.__new__" "dict.__init__" :=
  ⟨by decide +kernel, by decide +kernel, ⟨_, _, mro_dict0⟩, madeBy_type mro_dict0 lk_dict_new (by decide +kernel), by decide +kernel, by rw [isSubtype_type]; kernel_rfl, PySem.F.slot_dict_init⟩
theorem tcall_dict1 (a : Value) : checkTypeCall "dict" ⟨[a], []⟩ = pure () := by kernel_rfl
theorem ncall_dict1 (a : Value) : checkBuiltinCall "dict.__new__" ⟨[.type "dict", a], []⟩ = pure () := by kernel_rfl
theorem ent_dict_new : entryFor table "dict.__new__" = some Builtin.«dict.__new__» := entryFor_of_tree (by kernel_rfl)
theorem pl_dict_new : plainId "dict.__new__" = true := by decide +kernel
theorem ent_dict_loop : entryFor table "dict.update.loop" = some Builtin.«dict.update.loop» := entryFor_of_tree (by kernel_rfl)
theorem pl_dict_loop : plainId "dict.update.loop" = true := by decide +kernel
section
variable {prog : Program} {w : World} {A : Around} {E : Value → Shared → Prop} {s : Shared}
theorem code_dnew (a : Value) {Q₁ : Value → Shared → Prop} (h : Q₁ (.ref s.heap.objs.size) { s with heap := s.heap.push { cls := .type "dict", data := .dict #[] } }) :
    codeAny (model prog w) A (.call (.builtin "dict.__new__") ⟨[.type "dict", a], []⟩) (wants Q₁ E) s := by
  refine codeAny_of_tree ?_
  show wpAny _ A.in1 (checkBuiltinCall "dict.__new__" ⟨[.type "dict", a], []⟩ >>= fun _ => again (.builtin "dict.__new__" ⟨[.type "dict", a], []⟩)) _ _ s
  refine wpAny_bind (wpAny_of_eq (ncall_dict1 a) (wpAny_pure ⟨plainId_quiet pl_dict_new _, codeAny_builtin ent_dict_new ?_⟩))
  rw [Around.under_plainId pl_dict_new _]
  have y1 := sub_dict0
  have y2 := mro_dict0
  obtain ⟨hp, g, d, tk, os⟩ := s
  wp_walk
  exact h
/-- a pair of the tuple: the key, its value, the tuple that holds both -/
structure Pr (P : Program) (w : World) where
  k : Key
  key : Value
  v : Value
  p : Addr
  is : (mixKind P w).is k key = true
theorem dloop {d it t : Addr} {vs : Array Value} {R : Result → Shared → Prop} (hh : A.handled = none) (dt : d ≠ t) (di : d ≠ it) (ti : t ≠ it) : ∀ (rest : List (Pr prog w)) (i : Nat) (kvs : List (Key × Value)) (s : Shared),
    s.heap.IsTupleIter it t i → s.heap.IsTuple t vs → vs.toList.drop i = rest.map (fun r => .ref r.p) → (∀ r ∈ rest, s.heap.IsTuple r.p #[r.key, r.v] ∧ r.p ≠ d ∧ r.p ≠ it) → s.heap.DictOf (mixKind prog w) d kvs → kvs.length + rest.length ≤ sizeLine →
    (∀ h' tk, h'.DictOf (mixKind prog w) d (rest.foldl (fun acc r => stored acc r.k r.v) kvs) → (∀ b o, b ≠ d → b ≠ it → s.heap.get? b = some o → h'.get? b = some o) → R (.ok (.ret .none)) { s with heap := h', toks := tk }) →
    codeAny (model prog w) A (.builtin "dict.update.loop" ⟨[.ref d, .ref it, rawInt i, .none], []⟩) R s
  | [], i, kvs, s, h1, h2, h3, h4, h5, h6, q => by
    refine codeAny_builtin ent_dict_loop ?_
    rw [Around.under_plainId pl_dict_loop _]
    show wpAny _ _ (pyNext (.ref it) >>= _) _ _ _
    have hv : vs[i]? = none := by
      have : vs.toList.length ≤ i := List.drop_eq_nil_iff.mp h3
      rw [Array.getElem?_eq_none_iff]
      simpa using this
    refine wpAny_bind (wpAny_pyNext_tuple_end (A := A.in1) hh h1 h2 hv fun h' eb => ?_)
    show wpAny _ _ (Builtin.Dict.addKeywords d [] >>= fun _ => ret .none) _ _ _
    refine wpAny_bind (wpAny_pure (wpAny_pure ?_))
    exact q h' _ (h5.extBut eb di) (fun b o hb hb2 e => eb b o hb2 e)
  | r :: rest, i, kvs, s, h1, h2, h3, h4, h5, h6, q => by
    refine codeAny_builtin ent_dict_loop ?_
    rw [Around.under_plainId pl_dict_loop _]
    show wpAny _ _ (pyNext (.ref it) >>= _) _ _ _
    have hl : i < vs.toList.length := by
      rcases Nat.lt_or_ge i vs.toList.length with z | z
      · exact z
      · rw [List.drop_eq_nil_of_le z] at h3; cases h3
    have hv : vs[i]? = some (.ref r.p) := by
      rw [List.drop_eq_getElem_cons hl, List.map_cons] at h3
      injection h3 with e1 e2
      rw [← e1]
      simp at hl ⊢
    have h3' : vs.toList.drop (i + 1) = rest.map (fun r => .ref r.p) := by
      rw [List.drop_eq_getElem_cons hl, List.map_cons] at h3
      injection h3
    obtain ⟨hp, pd, pi⟩ := h4 r (List.mem_cons_self ..)
    refine wpAny_bind (wpAny_pyNext_tuple_item h1 h2 hv fun h' st' sb => ?_)
    have hp' : h'.IsTuple r.p #[r.key, r.v] := hp.extBut sb.extBut pi
    show wpAny _ _ (holding [.ref r.p] _ >>= _) _ _ _
    refine wpAny_bind (wpAny_holding (wpAny_bind (wpAny_tryCatch ?_)))
    obtain ⟨ob, e1, e2, nn, e3⟩ := hp'
    unfold Builtin.Dict.pairItems
    refine wpAny_bind (wpAny_typeOf (s := { s with heap := h' }) ⟨ob, e1, e2⟩ ?_)
    rw [if_pos (by decide)]
    refine wpAny_bind (wpAny_seqItems (s := { s with heap := h' }) e1 e3 (wpAny_pure ?_))
    show wpAny _ _ (holding [r.key, r.v] (dictSet d r.key r.v)) _ _ _
    refine wpAny_holding (wpAny_dictSet_pairs (s := { s with heap := h' }) (knd := mixKind prog w) r.is (h5.extBut sb.extBut di) (fun h2' hd2 sb2 => ?_) (by rw [List.length_cons] at h6; omega))
    refine wpAny_pure ⟨plainId_quiet pl_dict_loop _, ?_⟩
    have ks : (stored kvs r.k r.v).length ≤ kvs.length + 1 := by
      unfold stored
      split
      · rw [List.length_map]; omega
      · rw [List.length_append, List.length_singleton]; omega
    have := dloop (R := R) hh dt di ti rest (i + 1) (stored kvs r.k r.v) { s with heap := h2', toks := s.toks + 1 } (st'.extBut sb2.extBut di.symm) ((h2.extBut sb.extBut ti).extBut sb2.extBut dt.symm) h3'
      (fun r' hr' => by
        obtain ⟨a1, a2, a3⟩ := h4 r' (List.mem_cons_of_mem _ hr')
        exact ⟨(a1.extBut sb.extBut a3).extBut sb2.extBut a2, a2, a3⟩) hd2 (by rw [List.length_cons] at h6; omega)
      (fun h3 tk a1 a2 => q h3 tk a1 (fun b o hb hb2 e => a2 b o hb hb2 (sb2.extBut b o hb (sb.extBut b o hb2 e))))
    exact this
end
end L2
namespace L2
open PySem PySem.Spec PyProof.Rows
/-- dict(t): a tuple of tuples of two -/
def rDictT : List V → Hp → VK → Prop := fun xs H Q => ∃ (a : Addr) (prs : List (Addr × Key × V)), xs = [.ref a] ∧ H a = some (.tup (prs.map fun p => V.ref p.1)) ∧ (∀ p ∈ prs, H p.1 = some (.tup [kV p.2.1, p.2.2])) ∧
  ∀ d, H d = none → Q (.ref d) (upd H d (.dK (prs.foldl (fun acc p => putK acc p.2.1 p.2.2) [])))
theorem pr_of {P : Program} {w : World} {H : Hp} {h : Heap} (ok : HOk P w H h) : ∀ prs : List (Addr × Key × V), (∀ p ∈ prs, H p.1 = some (.tup [kV p.2.1, p.2.2])) →
    ∃ rs : List (Pr P w), rs.map (fun r => r.p) = prs.map (·.1) ∧ (∀ r ∈ rs, h.IsTuple r.p #[r.key, r.v]) ∧ ∀ (kvs : List (Key × V)) (vs : List (Key × Value)), KV kvs vs → KV (prs.foldl (fun acc p => putK acc p.2.1 p.2.2) kvs) (rs.foldl (fun acc r => stored acc r.k r.v) vs)
  | [], _ => ⟨[], rfl, fun r hr => by simp at hr, fun kvs vs r => r⟩
  | p :: prs, hp => by
    obtain ⟨rs, e1, e2, e3⟩ := pr_of ok prs (fun q hq => hp q (List.mem_cons_of_mem _ hq))
    obtain ⟨_, its, r, tp⟩ := (show ObjOk P w H h p.1 (.tup [kV p.2.1, p.2.2]) from ok p.1 _ (hp p (List.mem_cons_self ..)))
    obtain ⟨u1, u2, rfl, r1, r2⟩ := vals2 r
    refine ⟨⟨p.2.1, u1, u2, p.1, kV_is r1⟩ :: rs, by rw [List.map_cons, List.map_cons, e1], fun q hq => ?_, fun kvs vs rv => ?_⟩
    · rcases List.mem_cons.mp hq with rfl | hq
      · exact tp.tup
      · exact e2 q hq
    · rw [List.foldl_cons, List.foldl_cons]
      exact e3 _ _ (rv.put p.2.1 r2)
section
variable {X : Cx}
theorem call_dictT (hc : X.calm = true) : CallR X (.type "dict") rDictT := by
  intro pins s σ H xs us Q I r h
  obtain ⟨a, prs, rfl, ha, hp, q⟩ := h
  obtain ⟨u, rfl, rx⟩ := vals1 r
  cases rx
  obtain ⟨zl, its, rv, o, e1, e2, e3, n, e4⟩ := (show ObjOk X.prog X.w H s.heap a (.tup (prs.map fun p => V.ref p.1)) from I.hok a _ ha)
  obtain ⟨oc, od, odat, osl⟩ := o
  cases e2
  cases e3
  cases e4
  have hh := I.ok.hd hc
  have sz : s.heap.objs.size ≠ a := Nat.ne_of_gt (Heap.lt_size e1)
  refine callType_codes (Q₁ := fun obj s₁ => obj = .ref s.heap.objs.size ∧ s₁ = { s with heap := s.heap.push { cls := .type "dict", data := .dict #[] } }) called_dict0 (tcall_dict1 _) PySem.F.entry_dict_init (code_dnew _ ⟨rfl, rfl⟩) fun obj s₁ h₁ => ?_
  obtain ⟨rfl, rfl⟩ := h₁
  have I1 := I.laid (a := s.heap.objs.size) (o := .dK []) (h' := s.heap.push { cls := .type "dict", data := .dict #[] }) (t' := s.toks) (fun _ _ q => Heap.get?_push_of_some _ q) (Nat.le_refl _) (dk_empty s.heap I.big)
  have hD : (s.heap.push { cls := .type "dict", data := .dict #[] }).get? s.heap.objs.size = some { cls := .type "dict", data := .dict #[] } := Heap.get?_push_size _ rfl
  refine ⟨⟨_, hD, rfl⟩, PySem.F.args_dict_init_2 _ _, ?_⟩
  have hT : Shared.TypeIs { s with heap := s.heap.push { cls := .type "dict", data := .dict #[] } } (.ref s.heap.objs.size) "dict" := ⟨_, hD, rfl⟩
  have hA : (s.heap.push { cls := .type "dict", data := .dict #[] }).get? a = some { cls := .type "tuple", dict := none, data := .seq its.toArray n, slots := osl } := Heap.get?_push_of_some _ e1
  unfold Builtin.«dict.__init__» Builtin.Dict.selfAndRest
  refine wpAny_bind (wpAny_bind (wpAny_notOrdered_dict hT (wpAny_pure ?_)))
  show wpAny _ _ (Builtin.Dict.updateFrom "dict.__init__" s.heap.objs.size (.ref a) [] .none) _ _ _
  unfold Builtin.Dict.updateFrom
  refine wpAny_bind (wpAny_typeOf (s := { s with heap := s.heap.push { cls := .type "dict", data := .dict #[] } }) ⟨_, hA, rfl⟩ ?_)
  rw [if_pos (by decide)]
  obtain ⟨rs, r1, r2, r3⟩ := pr_of I.hok prs hp
  have hits : its = rs.map (fun r => Value.ref r.p) := by
    have e : ∀ (l : List (Addr × Key × V)) (m : List Value), Vals (l.map fun p => V.ref p.1) m → m = (l.map (·.1)).map Value.ref := by
      intro l
      induction l with
      | nil => intro m q; cases q; rfl
      | cons p l ih =>
        intro m q
        cases q with
        | cons q1 q2 => cases q1; rw [ih _ q2]; rfl
    rw [e prs its rv, ← r1, List.map_map]
    rfl
  have hlen : rs.length = prs.length := by
    have := congrArg List.length r1
    simpa using this
  rw [List.length_map] at zl
  have hsys := I.big
  obtain ⟨hp0, g, dr, tk0, os⟩ := s
  refine wpAny_bind (tup_no_keys (A := X.A.in1.in1) hh hA fun h' tk kp => ?_)
  simp only [Option.isNone_none, if_true]
  have kp0 : ∀ b o, hp0.get? b = some o → h'.get? b = some o := fun b o e => kp b o (Heap.get?_push_of_some _ e)
  have I2 : Inv X pins σ (upd H hp0.objs.size (.dK [])) ⟨h', g, dr, tk, os⟩ := I1.kept (t' := tk) kp
  have hA' : h'.IsTuple a its.toArray := ⟨_, kp _ _ hA, rfl, _, rfl⟩
  have dlt : hp0.objs.size < h'.objs.size := Heap.lt_size (kp _ _ hD)
  have alt : a < h'.objs.size := Heap.lt_size (kp _ _ hA)
  refine wpAny_bind (wpAny_rule (wpAny_bind (wpAny_pyIter_tuple (s := ⟨h', g, dr, tk, os⟩) hA' (wpAny_pure ⟨plainId_quiet pl_dict_loop _, ?_⟩))))
  obtain ⟨zd, hd, vs0, rk0, dd⟩ := dk_of I2.hok (show (upd H hp0.objs.size (.dK [])) hp0.objs.size = some (.dK []) from upd_same)
  cases rk0
  refine dloop (A := X.A.in1) hh sz (Nat.ne_of_lt dlt) (Nat.ne_of_lt alt) rs 0 [] _ ⟨_, Heap.get?_push_size _ rfl, rfl, rfl⟩ (Heap.IsTuple.push hA' _) ?_ ?_ (dd.push _) ?_ ?_
  · rw [List.drop_zero, ← hits]
  · intro r hr
    have t0 := r2 r hr
    have plt : r.p < hp0.objs.size := by
      obtain ⟨o, e, _⟩ := t0
      exact Heap.lt_size e
    exact ⟨Heap.IsTuple.push (t0.at fun o e => kp0 _ o e) _, Nat.ne_of_lt plt, Nat.ne_of_lt (Nat.lt_trans plt dlt)⟩
  · rw [hlen]; simpa using zl
  · intro h2 tk2 hd2 k2
    have k3 : ∀ b u, b ≠ hp0.objs.size → h'.get? b = some u → h2.get? b = some u := fun b u hb e => k2 b u hb (Nat.ne_of_lt (Heap.lt_size e)) (Heap.get?_push_of_some _ e)
    have he : ∃ q, h2.get? hp0.objs.size = some q := let ⟨q, _, _, hq, _⟩ := hd2; ⟨q, hq⟩
    have hz : (prs.foldl (fun acc p => putK acc p.2.1 p.2.2) []).length ≤ sizeLine := by
      have len : ∀ (l : List (Addr × Key × V)) (acc : List (Key × V)), (l.foldl (fun acc p => putK acc p.2.1 p.2.2) acc).length ≤ acc.length + l.length := by
        intro l
        induction l with
        | nil => intro acc; exact Nat.le_refl _
        | cons p l ih =>
          intro acc
          rw [List.foldl_cons, List.length_cons]
          have h1 := ih (putK acc p.2.1 p.2.2)
          have h2 := length_putK acc p.2.1 p.2.2
          omega
      have := len prs []
      simp at this
      omega
    have I3 := I2.write (x := hp0.objs.size) (e := hp0.objs.size) (o := .dK (prs.foldl (fun acc p => putK acc p.2.1 p.2.2) [])) (t' := tk2) (by rw [upd_same]; exact True.intro) (.inl rfl) k3 he (dk_new hz hd (r3 [] [] .nil) hd2)
    rw [upd_upd] at I3
    exact ⟨rfl, .ref hp0.objs.size, _, I3, rfl, q _ (I.hok.fresh (Nat.le_refl _))⟩
end
end L2

set_option Elab.async false
set_option linter.all false
set_option maxRecDepth 100000
set_option exponentiation.threshold 2000
/-! enumerate of a list, walked by a target of names -/
namespace L2
open PySem PySem.Spec PyProof.Rows
section
variable {X : Cx} {pins : List (Addr × Obj)} {σ : St} {H : Hp} {s : Shared} {h' : Heap}
end
def Ite (K : PySem.W.Frag) (a : Addr) : It :=
  ⟨fun k H => ∃ (xs : List V) (x : V), SqL K H a xs ∧ xs[k]? = some x,
   fun k H v H' => ∃ p, v = .ref p ∧ H p = none ∧ ∀ (xs : List V) (x : V), SqL K H a xs → xs[k]? = some x → H' = upd H p (.tup [.int k, x]),
   fun k H => ∃ (xs : List V), SqL K H a xs ∧ xs.length ≤ k⟩
section
variable {X : Cx}
def iEnum (K : PySem.W.Frag) (ta : TA) : TI := fun σ H R => ta σ H fun vs H1 => ∃ t, vs = [.ref t] ∧ (∃ xs, SqL K H1 t xs) ∧ R (Ite K t) H1
end
end L2

set_option Elab.async false
set_option linter.all false
set_option maxRecDepth 100000
set_option exponentiation.threshold 2000
namespace L2
open PySem PySem.Spec PyProof.Rows
section
variable {X : Cx} {e : Expr} {te : TE} {pos p2 p3 p4 : Pos} {n : Nat}
/-- xs[::-1] of a list: a new list -/
def tRev (K : PySem.W.Frag) (te : TE) : TE := fun σ H Q => te σ H fun x H1 => ∃ a xs, x = .ref a ∧ SqL K H1 a xs ∧ ∀ p, H1 p = none → Q (.ref p) (upd H1 p (.lst xs.reverse))
end
/-! ### how many unlike ints a list has: len(set(xs)) -/
def unlike (ns : List Int) : Nat := (ns.foldl step_dedup []).length
section
variable {X : Cx} {e : Expr} {te : TE} {pos p2 p3 p4 : Pos}
def tLenSet (K : PySem.W.Frag) (te : TE) : TE := fun σ H Q => te σ H fun x H1 => ∃ a ns, [x] = [V.ref a] ∧ SqL K H1 a (ns.map V.int) ∧ ns.length < 4000 ∧ Q (.int (unlike ns)) H1
end

/-! ### zip of two lists, walked by a target of names -/
def Itzl (K : PySem.W.Frag) (t1 t2 : Addr) : It :=
  ⟨fun k H => ∃ (xs ys : List V) (x y : V), SqL K H t1 xs ∧ SqL K H t2 ys ∧ xs[k]? = some x ∧ ys[k]? = some y,
   fun k H v H' => ∃ p, v = .ref p ∧ H p = none ∧ ∀ (xs ys : List V) (x y : V), SqL K H t1 xs → SqL K H t2 ys → xs[k]? = some x → ys[k]? = some y → H' = upd H p (.tup [x, y]),
   fun k H => ∃ (xs ys : List V), SqL K H t1 xs ∧ SqL K H t2 ys ∧ (xs.length ≤ k ∨ ys.length ≤ k)⟩
section
variable {X : Cx}
def iZipL (K : PySem.W.Frag) (ta : TA) : TI := fun σ H R => ta σ H fun vs H1 => ∃ t u, vs = [.ref t, .ref u] ∧ (∃ xs, SqL K H1 t xs) ∧ (∃ ys, SqL K H1 u ys) ∧ R (Itzl K t u) H1
end
end L2

set_option linter.all false
/-! the mathematics of webs: plain lists of ints -/
namespace WB
def Web (W : List Int) : Prop := W.length ≤ 23 ∧ ∀ (i : Nat) (x : Int), W[i]? = some x → 0 ≤ x ∧ x ≤ (i : Int)
def Post (W : List Int) (p : Int) : Prop := 0 ≤ p ∧ p ≤ (W.length : Int)
def par (W : List Int) (p : Int) : Int := W.getD (p - 1).toNat 0
theorem par_at {W : List Int} {p : Int} (h : Post W p) (h0 : 0 < p) : W[(p - 1).toNat]? = some (par W p) := by
  obtain ⟨h1, h2⟩ := h
  have : (p - 1).toNat < W.length := by omega
  unfold par
  rw [List.getD_eq_getElem?_getD, List.getElem?_eq_getElem this]
  rfl
theorem par_lt {W : List Int} {p : Int} (w : Web W) (h : Post W p) (h0 : 0 < p) : 0 ≤ par W p ∧ par W p < p := by
  have := w.2 _ _ (par_at h h0)
  omega
theorem par_post {W : List Int} {p : Int} (w : Web W) (h : Post W p) (h0 : 0 < p) : Post W (par W p) := by
  have := par_lt w h h0
  obtain ⟨h1, h2⟩ := h
  exact ⟨this.1, by omega⟩
def back (W : List Int) : Nat → Int → List Int
  | 0, p => [p]
  | f + 1, p => if 0 < p then p :: back W f (par W p) else [p]
def bk (W : List Int) (p : Int) : List Int := back W p.toNat p
theorem back_fuel {W : List Int} (w : Web W) : ∀ (f g : Nat) (p : Int), Post W p → p.toNat ≤ f → p.toNat ≤ g → back W f p = back W g p
  | 0, 0, p, _, _, _ => rfl
  | 0, g + 1, p, h, h1, _ => by
    have : ¬ 0 < p := by omega
    unfold back
    rw [if_neg this]
  | f + 1, 0, p, h, _, h1 => by
    have : ¬ 0 < p := by omega
    unfold back
    rw [if_neg this]
  | f + 1, g + 1, p, h, h1, h2 => by
    unfold back
    by_cases h0 : 0 < p
    · rw [if_pos h0, if_pos h0]
      have := par_lt w h h0
      rw [back_fuel w f g _ (par_post w h h0) (by omega) (by omega)]
    · rw [if_neg h0, if_neg h0]
theorem bk_pos {W : List Int} {p : Int} (w : Web W) (h : Post W p) (h0 : 0 < p) : bk W p = p :: bk W (par W p) := by
  unfold bk
  obtain ⟨n, hn⟩ : ∃ n, p.toNat = n + 1 := ⟨p.toNat - 1, by omega⟩
  rw [hn]
  have := par_lt w h h0
  show (if 0 < p then p :: back W n (par W p) else [p]) = _
  rw [if_pos h0, back_fuel w n (par W p).toNat _ (par_post w h h0) (by omega) (Nat.le_refl _)]
theorem bk_zero (W : List Int) : bk W 0 = [0] := rfl
theorem post_ind {W : List Int} (w : Web W) {P : Int → Prop} (h0 : P 0) (hs : ∀ p, Post W p → 0 < p → P (par W p) → P p) : ∀ p, Post W p → P p := by
  have : ∀ (n : Nat) (p : Int), p.toNat ≤ n → Post W p → P p := by
    intro n
    induction n with
    | zero =>
      intro p hn hp
      have : p = 0 := by have := hp.1; omega
      subst this
      exact h0
    | succ n ih =>
      intro p hn hp
      by_cases hp0 : 0 < p
      · have := par_lt w hp hp0
        exact hs p hp hp0 (ih _ (by omega) (par_post w hp hp0))
      · have : p = 0 := by have := hp.1; omega
        subst this
        exact h0
  exact fun p hp => this _ p (Nat.le_refl _) hp
theorem bk_cons {W : List Int} (w : Web W) {p : Int} (h : Post W p) : ∃ t, bk W p = p :: t := by
  by_cases h0 : 0 < p
  · exact ⟨_, bk_pos w h h0⟩
  · have : p = 0 := by have := h.1; omega
    subst this
    exact ⟨_, bk_zero W⟩
theorem bk_mem {W : List Int} (w : Web W) : ∀ p, Post W p → ∀ x ∈ bk W p, Post W x ∧ x ≤ p ∧ ∃ pre, bk W p = pre ++ bk W x := by
  refine post_ind w ?_ ?_
  · intro x hx
    rw [bk_zero] at hx
    simp at hx
    subst hx
    exact ⟨⟨by decide, by omega⟩, by decide, [], rfl⟩
  · intro p hp h0 ih x hx
    have e := bk_pos w hp h0
    rw [e] at hx
    rcases List.mem_cons.mp hx with rfl | hx
    · exact ⟨hp, Int.le_refl _, [], rfl⟩
    · obtain ⟨a, b, pre, c⟩ := ih x hx
      have := par_lt w hp h0
      exact ⟨a, by omega, p :: pre, by rw [e, c]; rfl⟩
theorem bk_has0 {W : List Int} (w : Web W) : ∀ p, Post W p → (0 : Int) ∈ bk W p := by
  refine post_ind w ?_ ?_
  · rw [bk_zero]; simp
  · intro p hp h0 ih
    rw [bk_pos w hp h0]
    exact List.mem_cons_of_mem _ ih
theorem bk_dec {W : List Int} (w : Web W) : ∀ p, Post W p → (bk W p).Pairwise (· > ·) := by
  refine post_ind w ?_ ?_
  · rw [bk_zero]; simp
  · intro p hp h0 ih
    rw [bk_pos w hp h0]
    refine List.pairwise_cons.mpr ⟨fun x hx => ?_, ih⟩
    have := (bk_mem w _ (par_post w hp h0) x hx).2.1
    have := par_lt w hp h0
    omega
theorem dec_nodup {l : List Int} (h : l.Pairwise (· > ·)) : l.Nodup := h.imp (fun a => by omega)
theorem bk_nodup {W : List Int} (w : Web W) {p : Int} (h : Post W p) : (bk W p).Nodup := dec_nodup (bk_dec w p h)
/-! two ways back meet -/
structure Split (W : List Int) (p q c : Int) (a b : List Int) : Prop where
  pc : Post W c
  ea : bk W p = a ++ bk W c
  eb : bk W q = b ++ bk W c
  na : ∀ x ∈ a, x ∉ bk W q
  nb : ∀ x ∈ b, x ∉ bk W p
theorem split {W : List Int} (w : Web W) {q : Int} (hq : Post W q) : ∀ p, Post W p → ∃ c a b, Split W p q c a b := by
  have inB : ∀ p, Post W p → p ∈ bk W q → ∃ c a b, Split W p q c a b := by
    intro p hp hm
    obtain ⟨_, _, pre, e⟩ := bk_mem w q hq p hm
    refine ⟨p, [], pre, hp, rfl, e, fun x hx => by simp at hx, fun x hx hx2 => ?_⟩
    have nd := bk_nodup w hq
    rw [e, List.nodup_append] at nd
    exact nd.2.2 x hx x hx2 rfl
  refine post_ind w ?_ ?_
  · exact inB 0 ⟨by decide, by omega⟩ (bk_has0 w q hq)
  · intro p hp h0 ih
    by_cases hm : p ∈ bk W q
    · exact inB p hp hm
    · obtain ⟨c, a, b, s⟩ := ih
      have e := bk_pos w hp h0
      refine ⟨c, p :: a, b, s.pc, by rw [e, s.ea]; rfl, s.eb, fun x hx => ?_, fun x hx hx2 => ?_⟩
      · rcases List.mem_cons.mp hx with rfl | hx
        · exact hm
        · exact s.na x hx
      · rw [e] at hx2
        rcases List.mem_cons.mp hx2 with rfl | hx2
        · exact hm (by rw [s.eb]; exact List.mem_append_left _ hx)
        · exact s.nb x hx hx2
theorem Split.flip {W : List Int} {p q c : Int} {a b : List Int} (s : Split W p q c a b) : Split W q p c b a := ⟨s.pc, s.eb, s.ea, s.nb, s.na⟩
def off (B : List Int) (x : Int) : Bool := !B.any (fun y => y == x)
theorem off_iff {B : List Int} {x : Int} : off B x = true ↔ x ∉ B := by
  unfold off
  rw [Bool.not_eq_true', ← Bool.not_eq_true, List.any_eq_true]
  constructor
  · intro h hx
    exact h ⟨x, hx, by simp⟩
  · rintro h ⟨y, hy, e⟩
    have := eq_of_beq e
    subst this
    exact h hy
theorem Split.ahead {W : List Int} {p q c : Int} {a b : List Int} (s : Split W p q c a b) : (bk W p).filter (off (bk W q)) = a := by
  rw [s.ea, List.filter_append]
  have h1 : a.filter (off (bk W q)) = a := List.filter_eq_self.mpr fun x hx => off_iff.mpr (s.na x hx)
  have h2 : (bk W c).filter (off (bk W q)) = [] := List.filter_eq_nil_iff.mpr fun x hx z => off_iff.mp z (by rw [s.eb]; exact List.mem_append_right _ hx)
  rw [h1, h2, List.append_nil]
/-- the way from p to q -/
def wayB (W : List Int) (p q : Int) : List Int :=
  (bk W p).filter (off (bk W q)) ++ [(bk W p).getD ((bk W p).filter (off (bk W q))).length 0] ++ ((bk W q).filter (off (bk W p))).reverse
theorem Split.turn {W : List Int} (w : Web W) {p q c : Int} {a b : List Int} (s : Split W p q c a b) : (bk W p)[a.length]? = some c := by
  obtain ⟨t, e⟩ := bk_cons w s.pc
  rw [s.ea, List.getElem?_append_right (Nat.le_refl _), Nat.sub_self, e]
  rfl
theorem Split.way {W : List Int} (w : Web W) {p q c : Int} {a b : List Int} (s : Split W p q c a b) : wayB W p q = a ++ c :: b.reverse := by
  unfold wayB
  rw [s.ahead, s.flip.ahead, List.getD_eq_getElem?_getD, s.turn w]
  simp
/-! neighbours -/
def Adj (W : List Int) (x y : Int) : Prop := 0 < max x y ∧ W[(max x y - 1).toNat]? = some (min x y)
theorem Adj.symm {W : List Int} {x y : Int} (h : Adj W x y) : Adj W y x := by
  unfold Adj at *
  rw [Int.max_comm, Int.min_comm]
  exact h
def Adjs (W : List Int) : List Int → Prop
  | [] => True
  | [_] => True
  | x :: y :: r => Adj W x y ∧ Adjs W (y :: r)
theorem Adjs.left {W : List Int} : ∀ (a : List Int) {c : Int} {t : List Int}, Adjs W (a ++ c :: t) → Adjs W (a ++ [c])
  | [], c, t, _ => trivial
  | [x], c, t, h => ⟨h.1, trivial⟩
  | x :: y :: r, c, t, h => ⟨h.1, Adjs.left (y :: r) h.2⟩
theorem Adjs.right {W : List Int} : ∀ (a : List Int) {b : List Int}, Adjs W (a ++ b) → Adjs W b
  | [], b, h => h
  | [x], [], h => trivial
  | [x], c :: t, h => h.2
  | x :: y :: r, b, h => Adjs.right (y :: r) h.2
theorem Adjs.join {W : List Int} : ∀ (a : List Int) {c : Int} {b : List Int}, Adjs W (a ++ [c]) → Adjs W (c :: b) → Adjs W (a ++ c :: b)
  | [], c, b, _, h => h
  | [x], c, b, h, h2 => ⟨h.1, h2⟩
  | x :: y :: r, c, b, h, h2 => ⟨h.1, Adjs.join (y :: r) h.2 h2⟩
theorem Adjs.at {W : List Int} : ∀ (l : List Int), Adjs W l → ∀ i x y, l[i]? = some x → l[i + 1]? = some y → Adj W x y
  | [], _, i, x, y, h, _ => by simp at h
  | [z], _, i, x, y, _, h => by simp at h
  | u :: v :: r, h, 0, x, y, hx, hy => by
    simp at hx hy
    subst hx hy
    exact h.1
  | u :: v :: r, h, i + 1, x, y, hx, hy => Adjs.at (v :: r) h.2 i x y (by simpa using hx) (by simpa using hy)
/-! the way is one -/
structure IsWay (W : List Int) (l : List Int) (p q : Int) : Prop where
  first : l[0]? = some p
  last : l[l.length - 1]? = some q
  nd : l.Nodup
  posts : ∀ x ∈ l, Post W x
  adj : Adjs W l
  len : l.length ≤ 60
end WB

set_option Elab.async false
set_option linter.all false
set_option maxRecDepth 100000
set_option exponentiation.threshold 2000
namespace L2
open PySem PySem.Spec PyProof.Rows
section
variable {X : Cx}
def CMulB (i j : Int) : Prop := i.natAbs < 2 ^ 1000 ∧ j.natAbs < 2 ^ 1000
end
section
variable {K : PySem.W.Frag} {H : Hp} {Q : VK}
end
/-! ### a bag of three ints -/
def Bag3 (H : Hp) (b : Addr) (n : Int) : Prop := ∃ x y z : Int, H b = some (.lst [.int x, .int y, .int z]) ∧ 0 ≤ x ∧ 0 ≤ y ∧ y < 10 ^ 41 ∧ 0 ≤ z ∧ z ≤ n
/-- all but b is as it was -/
def But (b : Addr) (H H' : Hp) : Prop := ∀ a o, H a = some o → a ≠ b → H' a = some o
theorem But.refl (b : Addr) (H : Hp) : But b H H := fun _ _ h _ => h
theorem But.trans {b : Addr} {H H1 H2 : Hp} (x : But b H H1) (y : But b H1 H2) : But b H H2 := fun a o h n => y a o (x a o h n) n
theorem Same.but {b : Addr} {H H' : Hp} (x : Same H H') : But b H H' := fun a o h _ => x a o h
theorem Bag3.same {b : Addr} {H H' : Hp} {n : Int} (B : Bag3 H b n) (s : Same H H') : Bag3 H' b n := by
  obtain ⟨x, y, z, h, r⟩ := B
  exact ⟨x, y, z, s _ _ h, r⟩
theorem Bag3.mono {b : Addr} {H : Hp} {n m : Int} (B : Bag3 H b n) (h : n ≤ m) : Bag3 H b m := by
  obtain ⟨x, y, z, h0, h1, h2, h3, h4, h5⟩ := B
  exact ⟨x, y, z, h0, h1, h2, h3, h4, Int.le_trans h5 h⟩
theorem Bag3.ne {b p : Addr} {H : Hp} {n : Int} (B : Bag3 H b n) (h : H p = none) : p ≠ b := by
  obtain ⟨x, y, z, h0, _⟩ := B
  exact (ne_of_none h0 h).symm
def spTake3 : Sp := fun vs H Q _ => ∃ (b : Addr) (n many : Int), vs = [.ref b, .int many] ∧ Bag3 H b n ∧ n ≤ 2 ^ 30 ∧ 0 < many ∧ many < 2 ^ 500 ∧
  ∀ (r : Int) (H' : Hp), 0 ≤ r → r < many → Bag3 H' b (n + 1) → But b H H' → Q (.int r) H'
def spBag3 (K : PySem.W.Frag) : Sp := fun vs H Q _ => ∃ (a : Addr) (ns : List Int) (k : Int), vs = [.ref a, .int k] ∧ SqL K H a (ns.map V.int) ∧ 0 ≤ k ∧ k ≤ 100 ∧
  ∀ (b : Addr) (H' : Hp), Bag3 H' b 6100 → Same H H' → H b = none → Q (.ref b) H'
/-! ### webs -/
def spWeb3 : Sp := fun vs H Q _ => ∃ (b : Addr) (n : Int), vs = [.ref b, .int 23] ∧ Bag3 H b n ∧ n ≤ 2 ^ 29 ∧
  ∀ (a : Addr) (W : List Int) (H' : Hp), WB.Web W → H' a = some (.lst (W.map V.int)) → H a = none → Bag3 H' b (n + 100) → But b H H' → a ≠ b → Q (.ref a) H'
def WebAt (H : Hp) (a : Addr) (W : List Int) : Prop := H a = some (.lst (W.map V.int)) ∧ WB.Web W
theorem WebAt.same {H H' : Hp} {a : Addr} {W : List Int} (h : WebAt H a W) (s : Same H H') : WebAt H' a W := ⟨s _ _ h.1, h.2⟩
def spIsWeb : Sp := fun vs H Q _ => ∃ (a : Addr) (W : List Int), vs = [.ref a] ∧ WebAt H a W ∧ ∀ H', Same H H' → Q (.bl true) H'
def spChkWeb : Sp := fun vs H Q _ => ∃ (a : Addr) (W : List Int), vs = [.ref a] ∧ WebAt H a W ∧ ∀ H', Same H H' → Q .non H'
def spIsPost : Sp := fun vs H Q _ => ∃ (a : Addr) (W : List Int) (p : Int), vs = [.ref a, .int p] ∧ WebAt H a W ∧ WB.Post W p ∧ Q (.bl true) H
def spChkPost : Sp := fun vs H Q _ => ∃ (a : Addr) (W : List Int) (p : Int), vs = [.ref a, .int p] ∧ WebAt H a W ∧ WB.Post W p ∧ Q .non H
def spWayBack : Sp := fun vs H Q _ => ∃ (a : Addr) (W : List Int) (p : Int), vs = [.ref a, .int p] ∧ WebAt H a W ∧ WB.Post W p ∧ ∀ l H', Same H H' → H l = none → H' l = some (.lst ((WB.bk W p).map V.int)) → Q (.ref l) H'
def spWay : Sp := fun vs H Q _ => ∃ (a : Addr) (W : List Int) (p q : Int), vs = [.ref a, .int p, .int q] ∧ WebAt H a W ∧ WB.Post W p ∧ WB.Post W q ∧ ∀ l H', Same H H' → H l = none → H' l = some (.lst ((WB.wayB W p q).map V.int)) → Q (.ref l) H'
end L2

set_option Elab.async false
set_option linter.all false
set_option maxRecDepth 100000
set_option exponentiation.threshold 2000
namespace L2
open PySem PySem.Spec PyProof.Rows

theorem none_of {H H' : Hp} {l : Addr} (s : Same H H') (h : H' l = none) : H l = none := by
  cases hz : H l with
  | none => rfl
  | some o => rw [s _ _ hz] at h; cases h
theorem nb {i : Int} (h0 : 0 ≤ i) (h1 : i < 2 ^ 400) : i.natAbs < 2 ^ 1000 := by
  have : i.natAbs < 2 ^ 400 := by omega
  exact Nat.lt_of_lt_of_le this (by decide)
theorem stir {y z : Int} (y0 : 0 ≤ y) (y1 : y < 10 ^ 41) (z0 : 0 ≤ z) (z1 : z ≤ 2 ^ 31) :
    CMulB 30011 z ∧ CMulB (y + 1) (30011 * z + 7) ∧ CMulB 104729 z ∧ CMulB (104729 * z) z ∧ 0 ≤ (y + 1) * (30011 * z + 7) + 104729 * z * z ∧ (y + 1) * (30011 * z + 7) + 104729 * z * z < 2 ^ 400 := by
  have a0 : 0 ≤ 30011 * z + 7 := by omega
  have a1 : 30011 * z + 7 ≤ 2 ^ 50 := by omega
  have a2 : (y + 1) * (30011 * z + 7) ≤ (10 ^ 41) * 2 ^ 50 := Int.mul_le_mul (by omega) a1 a0 (by decide)
  have a3 : 0 ≤ (y + 1) * (30011 * z + 7) := Int.mul_nonneg (by omega) a0
  have b0 : 0 ≤ 104729 * z := by omega
  have b1 : 104729 * z ≤ 2 ^ 50 := by omega
  have b2 : 104729 * z * z ≤ 2 ^ 50 * 2 ^ 31 := Int.mul_le_mul b1 z1 z0 (by decide)
  have b3 : 0 ≤ 104729 * z * z := Int.mul_nonneg b0 z0
  refine ⟨⟨by decide, nb z0 (by omega)⟩, ⟨nb (by omega) (by omega), nb a0 (by omega)⟩, ⟨by decide, nb z0 (by omega)⟩, ⟨nb b0 (by omega), nb z0 (by omega)⟩, by omega, by omega⟩

def spLaw (K : PySem.W.Frag) : Sp := fun vs H Q _ => ∃ (a : Addr) (ns : List Int), vs = [.ref a] ∧ SqL K H a (ns.map V.int) ∧ ns.length ≤ 63 ∧ ∀ H', Q (.bl true) H'
theorem But.same {b : Addr} {H H' : Hp} (h : But b H H') (n : H b = none) : Same H H' := fun a o e => h a o e (ne_of_none e n)
theorem mn (i j : Int) : (if j < i then j else i) = min i j := by rw [Int.min_def]; split <;> split <;> omega
def spIsWay : Sp := fun vs H Q _ => ∃ (a f : Addr) (W l : List Int) (p q : Int), vs = [.ref a, .ref f, .int p, .int q] ∧ WebAt H a W ∧ H f = some (.lst (l.map V.int)) ∧ WB.IsWay W l p q ∧ ∀ H', Same H H' → Q (.bl true) H'

def PairAt (H : Hp) (W : List Int) (y : V) : Prop := ∃ (t : Addr) (x z : Int), y = .ref t ∧ H t = some (.tup [.int x, .int z]) ∧ WB.Post W x ∧ WB.Post W z
/-- tuples stay -/
def Tups (H H' : Hp) : Prop := ∀ a xs, H a = some (.tup xs) → H' a = some (.tup xs)
theorem PairAt.keep {H H' : Hp} {W : List Int} {y : V} (h : PairAt H W y) (s : Tups H H') : PairAt H' W y := by
  obtain ⟨t, x, z, e, h1, r⟩ := h
  exact ⟨t, x, z, e, s _ _ h1, r⟩
theorem Tups.trans {H H1 H2 : Hp} (a : Tups H H1) (b : Tups H1 H2) : Tups H H2 := fun c xs h => b c xs (a c xs h)
theorem Same.tups {H H' : Hp} (s : Same H H') : Tups H H' := fun a xs h => s _ _ h
theorem But.tups {b : Addr} {H H' : Hp} {n : Int} (B : Bag3 H b n) (s : But b H H') : Tups H H' := fun a xs h => by
  obtain ⟨x, y, z, hb, _⟩ := B
  exact s _ _ h (ne_of h hb (by intro z; cases z))
theorem tups_lst {H : Hp} {p : Addr} {ys : List V} {o : HO} (h : H p = some (.lst ys)) : Tups H (upd H p o) := fun a xs e => by
  rw [upd_ne (ne_of e h (by intro z; cases z))]
  exact e
theorem upd_off {H H0 : Hp} {p : Addr} {o : HO} (s : Same H0 H) (n : H0 p = none) : Same H0 (upd H p o) := fun a u e => by
  rw [upd_ne (ne_of_none e n)]
  exact s _ _ e
end L2

set_option Elab.async false
set_option linter.all false
set_option maxRecDepth 100000
set_option exponentiation.threshold 2000
/-! texts: ''.join(xs), sorted(xs) -/
namespace L2
open PySem PySem.Spec PyProof.Rows
theorem strs_of : ∀ {ts : List Str} {us : List Value}, Vals (ts.map V.str) us → ∃ l : List (Str × Tok), strValues l = us ∧ l.map (·.1) = ts
  | [], _, h => by cases h; exact ⟨[], rfl, rfl⟩
  | x :: ts, _, h => by
    rw [List.map_cons] at h
    cases h with
    | cons r h =>
      obtain ⟨t, rfl⟩ := r
      obtain ⟨l, h1, h2⟩ := strs_of h
      exact ⟨(x, t) :: l, by rw [← h1]; rfl, by rw [← h2]; rfl⟩
theorem strsAre_of : ∀ {ts : List Str} {us : List Value}, Vals (ts.map V.str) us → StrsAre us ts
  | [], _, h => by cases h; exact .nil
  | x :: ts, _, h => by
    rw [List.map_cons] at h
    cases h with
    | cons r h =>
      obtain ⟨t, rfl⟩ := r
      exact .cons _ _ (strsAre_of h)
theorem vals_of_strs : ∀ {us : List Value} {ts : List Str}, StrsAre us ts → Vals (ts.map V.str) us
  | _, _, .nil => .nil
  | _, _, .cons n t h => .cons ⟨t, rfl⟩ (vals_of_strs h)
section
variable {X : Cx}
/-- x.join(xs), xs a list of texts -/
def rJoin (K : PySem.W.Frag) : V → List V → Hp → VK → Prop := fun x vs H Q => ∃ (y : Str) (a : Addr) (ts : List Str), x = .str y ∧ vs = [.ref a] ∧ SqL K H a (ts.map V.str) ∧ JoinOk y ts = true ∧ Q (.str (Txt.join y ts)) H
theorem mt_join : MtM X "str.join" (rJoin X.K) := by
  intro pins s σ H x vs v us Q I rx rv h
  obtain ⟨y, a, ts, rfl, rfl, hq, hok, q⟩ := h
  obtain ⟨t, rfl⟩ := rx
  obtain ⟨u, rfl, ru⟩ := rv.one
  cases ru
  obtain ⟨its, r, ht, hz⟩ := I.list hq
  obtain ⟨l, rfl, rfl⟩ := strs_of r
  unfold JoinOk at hok
  rw [Bool.not_eq_true'] at hok
  refine call_meets F.slot_str_join (typeIs_str _ _ _) F.entry_str_join (F.args_str_join_2 _ _) (meets_str_join_list y t a l hok) ⟨ht.isList, post_join l ⟨joinFit_length hok, fun t' k => ?_⟩⟩
  exact ⟨.str _, H, I.kept (t' := k) fun b o e => e, ⟨t', rfl⟩, q⟩
/-- sorted(xs) of a list of texts, fewer than 64 -/
def rSortS (K : PySem.W.Frag) : List V → Hp → VK → Prop := fun xs H Q => ∃ (a : Addr) (ns : List Str), xs = [.ref a] ∧ SqL K H a (ns.map V.str) ∧ ns.length < 64 ∧
  ∀ (p : Addr) (ms : List Str), ms.Perm ns → sortedS ms = true → H p = none → Q (.ref p) (upd H p (.lst (ms.map V.str)))
end
end L2

set_option Elab.async false
set_option linter.all false
set_option maxRecDepth 100000
set_option exponentiation.threshold 2000
/-! sets of texts: made of a list, then gone through in whatever order -/
namespace L2
open PySem PySem.Spec PyProof.Rows
theorem or_led (t : SetTable) (n : Nat) : (t.orStandIn n).led = t.led := by unfold SetTable.orStandIn; split <;> rfl
theorem or_plain (t : SetTable) (n : Nat) (h : t.plain = false) : (t.orStandIn n).plain = false := by
  unfold SetTable.orStandIn
  split
  · exact h
  · rfl
theorem lay_led (t : SetTable) (es : Array (Int × Value)) (h : Int) (x : Value) : (layNew t es h x).2.1.led = t.led := by
  unfold layNew
  split
  · exact (or_led _ _).trans rfl
  · rfl
theorem lay_plain (t : SetTable) (es : Array (Int × Value)) (h : Int) (x : Value) : t.plain = false → (layNew t es h x).2.1.plain = false := by
  intro hp
  unfold layNew
  split
  · exact or_plain _ _ hp
  · rfl
theorem laid_of {mask finger moves : Nat} {led plain : Bool} {hs : Array Int} {t : SetTable} {o : Array Nat} (h : SetTable.laid mask finger moves led plain hs = some (t, o)) : t.led = led ∧ t.plain = plain := by
  unfold SetTable.laid at h
  cases h1 : SetTable.layClean mask hs with
  | none => rw [h1] at h; cases h
  | some ow =>
    rw [h1] at h
    simp only [Option.bind_eq_bind, Option.bind_some, Option.pure_def, Option.some.injEq, Prod.mk.injEq] at h
    rw [← h.1]
    exact ⟨rfl, rfl⟩
theorem relay_led (t : SetTable) (es : Array (Int × Value)) (n : Nat) : (relayAll t es n).2.1.led = t.led := by
  unfold relayAll
  split
  · rename_i t' o h
    dsimp only
    split
    · exact (laid_of h).1
    · rfl
  · rfl
theorem relay_plain (t : SetTable) (es : Array (Int × Value)) (n : Nat) (hp : t.plain = false) : (relayAll t es n).2.1.plain = false := by
  unfold relayAll
  split
  · rename_i t' o h
    dsimp only
    split
    · rw [← hp]; exact (laid_of h).2
    · rfl
  · rfl
/-- whether the world tells the order of sets by the text of the program -/
def byTx (w : World) : Bool := w.params.followText "set-order"
/-- a set of these texts, none twice -/
structure TxSet (prog : Program) (w : World) (h : Heap) (a : Addr) (ks : List Str) : Prop where
  at' : ∃ (es : Array (Int × Value)) (ep : Nat) (t : SetTable), h.get? a = some { cls := .type "set", dict := none, data := .set es ep t } ∧ ElemsOf (strKind prog w) es.toList ∧
    StrsAre (es.toList.map (·.2)) ks ∧ t.fits es.size = true ∧ t.led = !byTx w ∧ (es.size = 0 ∨ t.plain = false)
  nodup : ks.Nodup
  few : ks.length < scanBound
theorem strsAre_len : ∀ {vs : List Value} {ks : List Str}, StrsAre vs ks → vs.length = ks.length
  | _, _, .nil => rfl
  | _, _, .cons _ _ h => by rw [List.length_cons, List.length_cons, strsAre_len h]
theorem strsAre_app : ∀ {vs us : List Value} {ks js : List Str}, StrsAre vs ks → StrsAre us js → StrsAre (vs ++ us) (ks ++ js)
  | _, _, _, _, .nil, h => h
  | _, _, _, _, .cons _ _ h', h => .cons _ _ (strsAre_app h' h)
theorem strsAre_perm {vs us : List Value} (p : us.Perm vs) : ∀ {ks : List Str}, StrsAre vs ks → ∃ js, StrsAre us js ∧ js.Perm ks := by
  induction p with
  | nil => intro ks h; exact ⟨ks, h, .refl _⟩
  | cons x p ih =>
    intro ks h
    cases h with
    | cons y t h =>
      obtain ⟨js, h1, h2⟩ := ih h
      exact ⟨y :: js, .cons y t h1, h2.cons _⟩
  | swap x y l =>
    intro ks h
    cases h with
    | cons y t h =>
      cases h with
      | cons y2 t2 h => exact ⟨y2 :: y :: _, .cons _ _ (.cons _ _ h), .swap _ _ _⟩
  | trans p1 p2 ih1 ih2 =>
    intro ks h
    obtain ⟨js, h1, h2⟩ := ih2 h
    obtain ⟨is, h3, h4⟩ := ih1 h1
    exact ⟨is, h3, h4.trans h2⟩
theorem strsAre_mem : ∀ {vs : List Value} {ks : List Str}, StrsAre vs ks → ∀ k, k ∈ ks ↔ ∃ t, Value.str k t ∈ vs
  | _, _, .nil, k => by simp
  | _, _, .cons y t h, k => by
    rw [List.mem_cons, strsAre_mem h k]
    constructor
    · rintro (rfl | ⟨u, hu⟩)
      · exact ⟨t, .head _⟩
      · exact ⟨u, .tail _ hu⟩
    · rintro ⟨u, hu⟩
      cases hu with
      | head => exact .inl rfl
      | tail _ hu => exact .inr ⟨u, hu⟩
theorem strK_is {prog : Program} {w : World} (k : Str) (t : Tok) : (strKind prog w).is k (.str k t) = true := by
  show Value.isStrOf k (.str k t) = true
  simp [Value.isStrOf]
theorem put_set (h : Heap) (a : Addr) (es es' : Array (Int × Value)) (ep : Nat) (t t' : SetTable) (ho : h.get? a = some { cls := .type "set", dict := none, data := .set es ep t }) :
    (h.update a (Obj.putSet es' t')).get? a = some { cls := .type "set", dict := none, data := .set es' (ep + 1) t' } := by
  have := Heap.get?_update_self (Obj.putSet es' t') ho (by rw [putSet_of es' t' (o := { cls := .type "set", dict := none, data := .set es ep t }) rfl]; rfl)
  rw [putSet_of es' t' (o := { cls := .type "set", dict := none, data := .set es ep t }) rfl] at this
  exact this
section
variable {prog : Program} {w : World} {A : Around} {E : Value → Shared → Prop} {s : Shared}
/-- one text more -/
theorem tset_add {a : Addr} {ks : List Str} {k : Str} {tk : Tok} {Q : Bool → Shared → Prop} (hS : TxSet prog w s.heap a ks) (hroom : ks.length + 1 < scanBound)
    (h : ∀ h' ks', Heap.SameBut a s.heap h' → TxSet prog w h' a ks' → ks'.length ≤ ks.length + 1 → (∀ x, x ∈ ks' ↔ x ∈ ks ∨ x = k) → ∀ b, Q b { s with heap := h' }) :
    wpAny (model prog w) A (setAddHashed a (.str k tk) ((strKind prog w).hash k)) Q E s := by
  obtain ⟨⟨es, ep, t, ho, hel, hks, hf, hled, hpl⟩, hnd, hfew⟩ := hS
  have hsz : es.size = ks.length := by rw [← strsAre_len hks, List.length_map, Array.length_toList]
  have hb : es.size < scanBound := by rw [hsz]; exact hfew
  have hkey : (strKind prog w).is k (.str k tk) = true := strK_is k tk
  unfold setAddHashed setAddHashedIn
  refine wpAny_holding (wpAny_bind (wpAny_setState_of ho rfl hf ?_))
  dsimp only
  rw [byScan_of (knd := strKind prog w) rfl hb hel]
  simp only [↓reduceIte]
  unfold setAddByScan
  refine wpAny_bind ?_
  refine wpAny_bind (wpAny_rule ?_)
  refine wpAny_bind (wpAny_setScan_of (knd := strKind prog w) hkey ho rfl hf hel ?_)
  have isk : ∀ e ∈ es.toList, (strKind prog w).is k e.2 = true → k ∈ ks := fun e he q => by
    obtain ⟨t', q'⟩ := Value.isStrOf_shape q
    exact (strsAre_mem hks k).mpr ⟨t', by rw [← q']; exact List.mem_map_of_mem he⟩
  cases hr : List.findIdx? (fun e => (strKind prog w).is k e.2) es.toList with
  | some j =>
    dsimp only
    obtain ⟨hj, hpj, _⟩ := List.findIdx?_eq_some_iff_getElem.mp hr
    have hk : k ∈ ks := isk _ (List.getElem_mem hj) hpj
    refine wpAny_pure (wpAny_pure ?_)
    exact h s.heap ks (Heap.SameBut.refl a s.heap) ⟨⟨es, ep, t, ho, hel, hks, hf, hled, hpl⟩, hnd, hfew⟩ (Nat.le_succ _) (fun x => ⟨.inl, fun q => q.elim id fun e => e ▸ hk⟩) _
  | none =>
    dsimp only
    have hk : k ∉ ks := fun hm => by
      obtain ⟨t', ht⟩ := (strsAre_mem hks k).mp hm
      obtain ⟨e, he, q⟩ := List.mem_map.mp ht
      have := List.findIdx?_eq_none_iff.mp hr e he
      rw [q, strK_is] at this
      cases this
    have hgw : ∀ (b : Bool) {s₁ : Shared} {Q' : Unit → Shared → Prop}, Q' () s₁ → wpAny (model prog w) A (match b with | true => rule "set.scan.the-table-gave-way" | false => pure ()) Q' E s₁ :=
      fun b s₁ Q' hq => by cases b <;> first | exact wpAny_pure hq | exact wpAny_rule hq
    have hperm := layNew_perm t es ((strKind prog w).hash k) (.str k tk)
    have hfits := layNew_fits t es ((strKind prog w).hash k) (.str k tk)
    have hl1 := lay_led t es ((strKind prog w).hash k) (.str k tk)
    have hp1 := lay_plain t es ((strKind prog w).hash k) (.str k tk)
    generalize hL : layNew t es ((strKind prog w).hash k) (.str k tk) = L at hperm hfits hl1 hp1 ⊢
    obtain ⟨es1, t1, wasDummy, gave⟩ := L
    dsimp only at hperm hfits hl1 hp1 ⊢
    rw [Array.toList_push] at hperm
    have hel1 : ElemsOf (strKind prog w) es1.toList := (hel.push hkey rfl).perm hperm
    have h0 : StrsAre ((es.toList ++ [((strKind prog w).hash k, Value.str k tk)]).map (·.2)) (ks ++ [k]) := by
      rw [List.map_append]
      exact strsAre_app hks (.cons k tk .nil)
    obtain ⟨k1, hk1, hkp1⟩ := strsAre_perm (hperm.map (·.2)) h0
    have hsz1 : es1.size = ks.length + 1 := by rw [← Array.length_toList, hperm.length_eq, List.length_append, Array.length_toList, hsz]; rfl
    have nd0 : (ks ++ [k]).Nodup := by
      rw [List.nodup_append]
      exact ⟨hnd, by simp, fun x hx y hy => by rw [List.mem_singleton] at hy; subst hy; exact fun e => hk (e ▸ hx)⟩
    have fin : ∀ (h' : Heap) (es2 : Array (Int × Value)) (ep2 : Nat) (t2 : SetTable), Heap.SameBut a s.heap h' → h'.get? a = some { cls := .type "set", dict := none, data := .set es2 ep2 t2 } → es2.toList.Perm es1.toList → t2.fits es2.size = true →
        t2.led = t.led → t2.plain = false → ∀ b, Q b { s with heap := h' } := fun h' es2 ep2 t2 sb ho2 p2 f2 l2 pl2 b => by
      obtain ⟨k2, hk2, hkp2⟩ := strsAre_perm (p2.map (·.2)) hk1
      have hp : k2.Perm (ks ++ [k]) := hkp2.trans hkp1
      have hlen : k2.length = ks.length + 1 := by rw [hp.length_eq, List.length_append]; rfl
      refine h h' k2 sb ⟨⟨es2, ep2, t2, ho2, hel1.perm p2, hk2, f2, l2.trans hled, .inr pl2⟩, hp.nodup_iff.mpr nd0, by omega⟩ (by omega) (fun x => ?_) b
      rw [hp.mem_iff, List.mem_append, List.mem_singleton]
    refine wpAny_bind (hgw _ ?_)
    have tail : ∀ (t2 : SetTable), t2.fits es1.size = true → t2.led = t.led → t2.plain = false → ∀ {R : Option Bool → Shared → Prop}, (∀ h', (∀ b, Q b { s with heap := h' }) → R (some true) { s with heap := h' }) →
        wpAny (model prog w) A (do
          storeSet a es1 t2
          if (!wasDummy && t2.tooFull) = true then do
              (match (relayAll t2 es1 (SetTable.grown es1.size)).2.2 with | true => rule "set.scan.the-table-gave-way" | false => pure ())
              storeSet a (relayAll t2 es1 (SetTable.grown es1.size)).1 (relayAll t2 es1 (SetTable.grown es1.size)).2.1
              pure (some true)
            else pure (some true)) R E s := by
      intro t2 f2 l2 pl2 R hR
      refine wpAny_bind (wpAny_storeSet_of ho rfl ?_ (fits_of_scanBound (by omega)))
      have ho1 := put_set s.heap a es es1 ep t t2 ho
      have sb1 := Heap.SameBut.update s.heap a (Obj.putSet es1 t2)
      split
      · have hp := relayAll_perm t2 es1 (SetTable.grown es1.size)
        have hfr := relayAll_fits t2 es1 (SetTable.grown es1.size)
        have hl2 := relay_led t2 es1 (SetTable.grown es1.size)
        have hp2 := relay_plain t2 es1 (SetTable.grown es1.size) pl2
        generalize hRl : relayAll t2 es1 (SetTable.grown es1.size) = Rl at hp hfr hl2 hp2 ⊢
        obtain ⟨es2, t3, gave2⟩ := Rl
        dsimp only at hp hfr hl2 hp2 ⊢
        have hs2 : es2.size = es1.size := by rw [← Array.length_toList, hp.length_eq, Array.length_toList]
        refine wpAny_bind (hgw _ ?_)
        refine wpAny_bind (wpAny_storeSet_of ho1 rfl ?_ (fits_of_scanBound (by omega)))
        exact wpAny_pure (hR _ (fin _ es2 _ t3 (sb1.trans (Heap.SameBut.update _ a _)) (put_set _ a es1 es2 (ep + 1) t2 t3 ho1) hp hfr (hl2.trans l2) hp2))
      · exact wpAny_pure (hR _ (fin _ es1 _ t2 sb1 ho1 (.refl _) f2 l2 pl2))
    split
    · refine wpAny_bind ?_
      rw [hashByValue_scannable 8 (x := .str k tk) rfl]
      refine wpAny_pure ?_
      exact tail { t1 with plain := false } (SetTable.fits_plain_off hfits) hl1 rfl fun h' q => wpAny_pure (q _)
    · rename_i hnp
      refine wpAny_bind (wpAny_pure ?_)
      simp only [↓reduceIte]
      exact tail t1 hfits hl1 (by simpa using hnp) fun h' q => wpAny_pure (q _)
end
end L2

set_option Elab.async false
set_option linter.all false
set_option maxRecDepth 100000
set_option exponentiation.threshold 2000
/-! set(xs), xs a list of texts -/
namespace L2
open PySem PySem.Spec PyProof.Rows
theorem TxSet.kept {prog : Program} {w : World} {h h' : Heap} {a : Addr} {ks : List Str} (T : TxSet prog w h a ks) (k : ∀ o, h.get? a = some o → h'.get? a = some o) : TxSet prog w h' a ks := by
  obtain ⟨⟨es, ep, t, ho, r⟩, b, c⟩ := T
  exact ⟨⟨es, ep, t, k _ ho, r⟩, b, c⟩
theorem strs_at : ∀ {vs : List Value} {ts : List Str}, StrsAre vs ts → ∀ (i : Nat) (v : Value), vs[i]? = some v → ∃ x t, v = .str x t ∧ ts[i]? = some x
  | _, _, .nil, i, v, h => by simp at h
  | _, _, .cons y t hr, 0, v, h => by simp at h; exact ⟨y, t, h.symm, rfl⟩
  | _, _, .cons y t hr, i + 1, v, h => by
    rw [List.getElem?_cons_succ] at h
    obtain ⟨x, t', e, e2⟩ := strs_at hr i v h
    exact ⟨x, t', e, by rw [List.getElem?_cons_succ]; exact e2⟩
section
variable {prog : Program} {w : World} {A : Around} {R : Result → Shared → Prop} {I : Addr} {fp wr : List Addr} {G : Array GenState → Array GenState → Prop} {P : Nat → Value → Prop} {St : Nat → Shared → Prop}
theorem tset_loop (ts : List Str) (W : WalksS prog w A.in1 I fp wr G ts.length P St) (S : Addr) (hSf : S ∉ fp)
    (hval : ∀ i v, P i v → ∃ x t, v = .str x t ∧ ts[i]? = some x) (hb : ts.length + 1 < scanBound) :
    ∀ (k i : Nat) (s : Shared) (ks : List Str), ts.length - i = k → i ≤ ts.length → St i s → TxSet prog w s.heap S ks → ks.length ≤ i → (∀ x, x ∈ ks ↔ x ∈ ts.take i) →
      (∀ s' ks', Moved (S :: wr) G s s' → TxSet prog w s'.heap S ks' → ks'.length ≤ ts.length → (∀ x, x ∈ ks' ↔ x ∈ ts) → R (.ok (.ret .none)) s') →
      codeAny (model prog w) A (.builtin "set.update.loop" ⟨[.ref S, .ref I], []⟩) R s := by
  have hSw : S ∉ wr := fun h => hSf (W.sub _ h)
  have hsub : ∀ b ∈ wr, b ∈ S :: wr := fun b hb => List.mem_cons_of_mem _ hb
  intro k
  induction k with
  | zero =>
    intro i s ks hk hi hst hS hl hm0 hR
    have hin : i = ts.length := by omega
    subst hin
    refine codeAny_builtin PyProof.Rows.F.entry_set_update_loop ?_
    rw [Around.under_plainId PyProof.Rows.F.plain_set_update_loop _]
    show wpAny _ A.in1 (pyNext (.ref I) >>= _) _ _ s
    refine wpAny_bind (W.done s _ _ hst fun s' hm => ?_)
    show wpAny _ A.in1 (ret Value.none) _ _ s'
    exact wpAny_pure (hR s' ks (hm.mono hsub) (hS.kept fun o e => hm.heap S _ hSw e) hl (fun x => by rw [hm0, List.take_length]))
  | succ k ih =>
    intro i s ks hk hi hst hS hl hm0 hR
    have hlt : i < ts.length := by omega
    refine codeAny_builtin PyProof.Rows.F.entry_set_update_loop ?_
    rw [Around.under_plainId PyProof.Rows.F.plain_set_update_loop _]
    show wpAny _ A.in1 (pyNext (.ref I) >>= _) _ _ s
    refine wpAny_bind (W.item i s _ _ hlt hst fun v s' hP hst' hm => ?_)
    obtain ⟨x, t, rfl, hx⟩ := hval i v hP
    have hS' : TxSet prog w s'.heap S ks := hS.kept fun o e => hm.heap S _ hSw e
    show wpAny _ A.in1 (holding [Value.str x t] (setAdd S (.str x t)) >>= _) _ _ s'
    refine wpAny_bind (wpAny_holding ?_)
    unfold setAdd
    refine wpAny_holding ?_
    refine wpAny_bind ((strKind prog w).pyHash (k := x) (strK_is x t) ?_)
    refine tset_add (s := { s' with toks := s'.toks + 1 }) hS' (by omega) fun h' ks' hsb hS2 hl2 hm2 b => ?_
    refine wpAny_pure ⟨plainId_quiet PyProof.Rows.F.plain_set_update_loop _, ih (i + 1) _ ks' (by omega) hlt (W.frame _ s' _ _ hst' (Nat.le_succ _) fun b hb o e => ?_) hS2 (by omega) (fun y => ?_) fun s'' k2 hm'' hS'' => ?_⟩
    · rw [hsb.2 b (fun h : b = S => hSf (by rw [← h]; exact hb))]; exact e
    · rw [hm2, hm0, List.take_succ, hx]
      simp
    · refine hR s'' k2 (Moved.trans W.gtrans ((hm.mono hsub).then_heap (Nat.le_succ _) fun b o hb e => ?_) hm'') hS''
      rw [hsb.2 b (fun h : b = S => hb (by rw [h]; exact List.mem_cons_self))]; exact e
end
section
variable {prog : Program} {w : World} {A : Around} {E : Value → Shared → Prop} {s : Shared}
theorem code_setnew (a : Value) {Q₁ : Value → Shared → Prop}
    (h : Q₁ (.ref s.heap.objs.size) { s with heap := s.heap.push { cls := .type "set", dict := none, data := .set #[] 0 (.fresh 0 0 (!byTx w)) } }) :
    codeAny (model prog w) A (.call (.builtin "set.__new__") ⟨[.type "set", a], []⟩) (wants Q₁ E) s := by
  refine codeAny_of_tree ?_
  show wpAny _ A.in1 (do checkBuiltinCall "set.__new__" ⟨[.type "set", a], []⟩; again (.builtin "set.__new__" ⟨[.type "set", a], []⟩)) _ _ s
  refine wpAny_bind (wpAny_of_eq (PySem.F.newCall_set_1 a) (wpAny_pure ⟨plainId_quiet PySem.F.plain_set_new _, codeAny_builtin PySem.F.entry_set_new ?_⟩))
  rw [Around.under_plainId PySem.F.plain_set_new _]
  unfold Builtin.«set.__new__» Builtin.Frozenset.newClass
  have hsub := sub_set_self
  obtain ⟨hp, g, d, tk, os⟩ := s
  dsimp only
  wp_walk
  refine wpAny_askSetting (wpAny_pure ?_)
  dsimp only
  simp only [newObj]
  refine wpAny_bind (wpAny_alloc (wpAny_pure ?_))
  exact wpAny_pure h
theorem tset_fresh {h : Heap} {a : Addr} (e : h.get? a = some { cls := .type "set", dict := none, data := .set #[] 0 (.fresh 0 0 (!byTx w)) }) : TxSet prog w h a [] :=
  ⟨⟨#[], 0, _, e, fun e he => by simp at he, .nil, rfl, rfl, .inl rfl⟩, List.nodup_nil, by decide⟩
end
section
variable {prog : Program} {w : World} {A : Around} {E : Value → Shared → Prop} {s : Shared}
set_option maxHeartbeats 3200000 in
theorem call_set_strs {l : Addr} {items : Array Value} {ts : List Str} {Q : Value → Shared → Prop}
    (hh : A.handled = none) (hl : s.heap.IsList l items) (hi : StrsAre items.toList ts) (hb : ts.length + 1 < scanBound)
    (h : ∀ (h' : Heap) (tk : Nat) (ks : List Str), TxSet prog w h' s.heap.objs.size ks → ks.length ≤ ts.length → (∀ x, x ∈ ks ↔ x ∈ ts) →
      (∀ b o, b < s.heap.objs.size → s.heap.get? b = some o → h'.get? b = some o) → Q (.ref s.heap.objs.size) { s with heap := h', toks := tk }) :
    wpAny (model prog w) A (call (.type "set") [.ref l]) Q E s := by
  have hsz : items.size = ts.length := by rw [← Array.length_toList]; exact strsAre_len hi
  obtain ⟨c, tl, hmro⟩ := PySem.F.called_set.mro
  have hmade := PySem.F.called_set.made
  have hsub := PySem.F.called_set.sub
  refine wpAny_call (codeAny_of_tree ?_)
  show wpAny _ _ (callAny (.type "set") _) _ _ _
  refine wpAny_pure ⟨Code.quiet_builtin _ (by decide +kernel), codeAny_builtin PySem.F.entry_type_call ?_⟩
  rw [Around.under_plain (weight_type_call_type "set" [.ref l] []) rfl]
  have h1 := PySem.F.called_set.notType
  have h2 := PySem.F.called_set.canCreate
  have hct := PySem.F.typeCall_set_1 (.ref l)
  repeat (any_goals (first | assumption | wp_step))
  refine codeAny_mono (code_setnew (.ref l) (E := E) (Q₁ := fun obj s₁ => obj = .ref s.heap.objs.size ∧ s₁ = { s with heap := s.heap.push { cls := .type "set", dict := none, data := .set #[] 0 (.fresh 0 0 (!byTx w)) } }) ⟨rfl, rfl⟩) fun r s₁ hr => ?_
  cases r with
  | error e => exact hr
  | ok fl =>
    cases fl with
    | ret obj =>
      obtain ⟨rfl, rfl⟩ := hr
      have hS : (s.heap.push { cls := .type "set", dict := none, data := .set #[] 0 (.fresh 0 0 (!byTx w)) }).get? s.heap.objs.size = some { cls := .type "set", dict := none, data := .set #[] 0 (.fresh 0 0 (!byTx w)) } := Heap.get?_push_size _ rfl
      have hT : Shared.TypeIs { s with heap := s.heap.push { cls := .type "set", dict := none, data := .set #[] 0 (.fresh 0 0 (!byTx w)) } } (.ref s.heap.objs.size) "set" := ⟨_, hS, rfl⟩
      have hli := PySem.F.called_set.init.lookup
      have hbi := PySem.F.called_set.init.bind (.ref s.heap.objs.size)
      repeat (any_goals (first | assumption | wp_step))
      refine codeAny_mono (codeAny_call_builtin (R := wants (fun r s₂ => r = .none ∧ ∃ h' tk ks, s₂ = { s with heap := h', toks := tk } ∧ TxSet prog w h' s.heap.objs.size ks ∧ ks.length ≤ ts.length ∧ (∀ x, x ∈ ks ↔ x ∈ ts) ∧
          (∀ b o, b < s.heap.objs.size → s.heap.get? b = some o → h'.get? b = some o)) E) PySem.F.called_set.init.plain PySem.F.entry_set_init (check_set_init_1 hT ?_)) fun r₂ s₂ hr₂ => ?_
      · obtain ⟨ol, hol, hcl, nl, hdl⟩ := hl
        obtain ⟨ocls, odict, odata, oslots⟩ := ol
        simp only at hcl hdl
        subst hcl; subst hdl
        have hol' : (s.heap.push { cls := .type "set", dict := none, data := .set #[] 0 (.fresh 0 0 (!byTx w)) }).get? l = some { cls := .type "list", dict := odict, data := .seq items nl, slots := oslots } := Heap.get?_push_of_some _ hol
        have hsls := PySem.F.sub_list_set
        have hslf := PySem.F.sub_list_frozenset
        have hne : (Value.type "list" == Value.type "dict") = false := by decide
        have hl1 : (s.heap.push { cls := .type "set", dict := none, data := .set #[] 0 (.fresh 0 0 (!byTx w)) }).IsList l items := ⟨_, hol', rfl, nl, rfl⟩
        unfold Builtin.«set.__init__» noKeywords Builtin.Frozenset.updateFrom
        generalize hPI : pyIter = PI
        wp_walk
        subst hPI
        refine wpAny_pyIter_list hl1 ?_
        refine wpAny_bind (wpAny_runValue ?_)
        have hlS : l < s.heap.objs.size := Heap.lt_size hol
        have hh3 : A.in1.in1.in1.handled = none := by simp [hh]
        have hneI : l ≠ (s.heap.push { cls := .type "set", dict := none, data := .set #[] 0 (.fresh 0 0 (!byTx w)) }).objs.size := by
          rw [Heap.size_push]; exact Nat.ne_of_lt (Nat.lt_succ_of_lt hlS)
        have hSf : s.heap.objs.size ∉ [(s.heap.push { cls := .type "set", dict := none, data := .set #[] 0 (.fresh 0 0 (!byTx w)) }).objs.size, l] := by
          rw [Heap.size_push]; simp only [List.mem_cons, List.mem_singleton, List.not_mem_nil, or_false, not_or]
          exact ⟨Nat.ne_of_lt (Nat.lt_succ_self _), Nat.ne_of_gt hlS⟩
        have hval : ∀ (i : Nat) (v : Value), items[i]? = some v → ∃ x t, v = .str x t ∧ ts[i]? = some x := fun i v hv =>
          strs_at hi i v (by rw [Array.getElem?_toList]; exact hv)
        have W := (Walks.list (prog := prog) (w := w) hh3 (s.heap.push { cls := .type "set", dict := none, data := .set #[] 0 (.fresh 0 0 (!byTx w)) }).objs.size l hneI items).toS
        rw [hsz] at W
        refine tset_loop ts W s.heap.objs.size hSf hval hb (ts.length - 0) 0 _ [] (by omega) (Nat.zero_le _)
          ⟨⟨_, Heap.get?_push_size _ rfl, rfl, rfl⟩, (hl1.push _)⟩ (tset_fresh (Heap.get?_push_of_some _ hS)) (Nat.le_refl _) (fun x => by simp) ?hR
        case hR =>
          intro s' ks hm hS' hlk hmk
          obtain ⟨h', g', d', tk', os'⟩ := s'
          have eg : g' = s.gens := hm.gens
          have ed : d' = s.drawn := hm.drawn
          have eo : os' = s.os := hm.os
          subst eg; subst ed; subst eo
          show wpAny _ _ _ _ _ _
          refine wpAny_pure ?_
          show wpAny _ _ (ret Value.none) _ _ _
          refine wpAny_pure ⟨rfl, h', tk', ks, rfl, hS', hlk, hmk, fun b o hb e => ?_⟩
          have hb1 : b ≠ s.heap.objs.size := Nat.ne_of_lt hb
          have hb2 : b ≠ (s.heap.push { cls := .type "set", dict := none, data := .set #[] 0 (.fresh 0 0 (!byTx w)) }).objs.size := by
            rw [Heap.size_push]; exact Nat.ne_of_lt (Nat.lt_succ_of_lt hb)
          exact hm.heap b o (by simp only [List.mem_cons, List.mem_singleton, List.not_mem_nil, or_false, not_or]; exact ⟨hb1, hb2⟩) (Heap.get?_push_of_some _ (Heap.get?_push_of_some _ e))
      · cases r₂ with
        | error e => exact hr₂
        | ok fl₂ =>
          cases fl₂ with
          | ret r =>
            obtain ⟨rfl, h', tk, ks, rfl, hS', hlk, hmk, hk'⟩ := hr₂
            repeat (any_goals (first | assumption | wp_step))
            exact h _ _ ks hS' hlk hmk hk'
          | _ => exact hr₂.elim
    | _ => exact hr.elim
end
end L2

set_option Elab.async false
set_option linter.all false
set_option maxRecDepth 100000
set_option exponentiation.threshold 2000
/-! going through a set of texts -/
namespace L2
open PySem PySem.Spec PyProof.Rows
theorem wpa_choose {M : Model} {A : Around} {E : Value → Shared → Prop} {s : Shared} {src : Source} {n : Nat} {Q : Nat → Shared → Prop} (hn : 0 < n) (h : ∀ i d', i < n → Q i { s with drawn := d' }) :
    wpAny M A (choose src n) Q E s := fun Γ p hΓ => by
  show Sem.wp M Γ (.choose src n .pure) _ _ p s
  rw [Sem.wp_choose]
  exact ⟨by omega, h _ _ (Nat.mod_lt _ hn)⟩
theorem erase_perm {α : Type} : ∀ {l : List α} {i : Nat} {x : α}, l[i]? = some x → (x :: l.eraseIdx i).Perm l
  | [], i, x, h => by simp at h
  | y :: l, 0, x, h => by simp at h; subst h; exact .refl _
  | y :: l, i + 1, x, h => by
    rw [List.getElem?_cons_succ] at h
    rw [List.eraseIdx_cons_succ]
    exact (List.Perm.swap _ _ _).trans ((erase_perm h).cons _)
theorem wpa_draw {M : Model} {A : Around} {E : Value → Shared → Prop} {α : Type} : ∀ (n : Nat) (xs : List α) (s : Shared) {Q : List α → Shared → Prop}, xs.length ≤ n → (∀ ys d', ys.Perm xs → Q ys { s with drawn := d' }) →
    wpAny M A (drawOrder n xs) Q E s
  | 0, xs, s, Q, hn, h => by
    have : xs = [] := List.length_eq_zero_iff.mp (Nat.le_zero.mp hn)
    subst this
    exact wpAny_pure (h [] s.drawn (.refl _))
  | n + 1, [], s, Q, hn, h => wpAny_pure (h [] s.drawn (.refl _))
  | n + 1, x :: xs, s, Q, hn, h => by
    show wpAny M A (choose .order (x :: xs).length >>= _) Q E s
    refine wpAny_bind (wpa_choose (by simp) fun i d1 hi => ?_)
    have hx : (x :: xs)[i]? = some (x :: xs)[i] := List.getElem?_eq_getElem hi
    rw [hx]
    show wpAny M A (drawOrder n ((x :: xs).eraseIdx i) >>= _) Q E _
    have hl : ((x :: xs).eraseIdx i).length ≤ n := by
      rw [List.length_eraseIdx, if_pos hi]
      simp at hn ⊢
      omega
    refine wpAny_bind (wpa_draw n _ _ hl fun ys d2 hp => wpAny_pure ?_)
    exact h _ d2 ((hp.cons _).trans (erase_perm hx))
theorem pick_go {α : Type} (next : Nat → Nat) : ∀ (n k : Nat) (left : List α) (out : Array α), left.length ≤ n → ((pickOrder.go next n k left out).toList).Perm (out.toList ++ left)
  | 0, k, left, out, h => by
    have : left = [] := List.length_eq_zero_iff.mp (Nat.le_zero.mp h)
    subst this
    simp [pickOrder.go]
  | n + 1, k, left, out, h => by
    unfold pickOrder.go
    split
    · rename_i x hx
      have hlt : next k % left.length < left.length := (List.getElem?_eq_some_iff.mp hx).1
      refine (pick_go next n (k + 1) _ _ ?_).trans ?_
      · rw [List.length_eraseIdx, if_pos hlt]; omega
      · rw [Array.toList_push, List.append_assoc]
        exact List.Perm.append_left _ (erase_perm hx)
    · rename_i hx
      cases left with
      | nil => simp
      | cons y l =>
        have : next k % (y :: l).length < (y :: l).length := Nat.mod_lt _ (by simp)
        rw [List.getElem?_eq_getElem this] at hx
        cases hx
theorem pick_perm {α : Type} (next : Nat → Nat) (xs : Array α) : ((pickOrder next xs).toList).Perm xs.toList := by
  have := pick_go next xs.size 0 xs.toList #[] (by simp)
  simpa [pickOrder] using this
theorem setDrawn_eq (a : Addr) : setDrawn a = (do
    let (es, _, t) ← setState a
    let byText ← setsByText
    return !byText && (!t.plain && decide (es.size > 1))) := rfl
theorem setNext_eq (a : Addr) (slot given epochThen : Nat) : setNext a slot given epochThen = (do
    let (es, epoch, t) ← setState a
    if ← setsByText then
      if epoch != epochThen then unsupported "set_iterator.__next__:elements-changed"
      return ((← setWalk a)[given]?).map fun e => (e.2, slot)
    if (!t.plain && decide (es.size > 1)) then unsupported "set_iterator.__next__:the-table-is-plain-no-more"
    (do if !t.led && !es.isEmpty then unsupported "set:maker-not-led" : Sem Unit)
    let i := SetTable.below t.place slot
    return match es[i]?, t.place[i]? with
      | some (_, x), some j => some (x, j + 1)
      | _, _ => none) := rfl

namespace FS
theorem entry_set_iter : entryFor table "set.__iter__" = some Builtin.«frozenset.__iter__» := entryFor_alias (id' := "frozenset.__iter__") (by kernel_rfl) rfl (by decide +kernel) (by kernel_rfl)
theorem slot_si_next : Slot "set_iterator" "__next__" "set_iterator.__next__" :=
  .of (owner := "set_iterator") (n := "__next__") (by rw [typeLookup_type, builtinLookup_eq_fast]; kernel_rfl) (by decide +kernel) (by decide +kernel) (by decide +kernel)
    (by first | exact .inl (by decide +kernel) | exact .inr (by decide +kernel)) (by rw [isSubtype_type]; kernel_rfl)
theorem entry_si_next : entryFor table "set_iterator.__next__" = some Builtin.«set_iterator.__next__» := entryFor_of_tree (by kernel_rfl)
theorem args_si_next (a : Value) : argsOk "set_iterator.__next__" ⟨[a], []⟩ := by unfold argsOk; kernel_rfl
theorem slot_si_iter : Slot "set_iterator" "__iter__" "set_iterator.__iter__" :=
  .of (owner := "set_iterator") (n := "__iter__") (by rw [typeLookup_type, builtinLookup_eq_fast]; kernel_rfl) (by decide +kernel) (by decide +kernel) (by decide +kernel)
    (by first | exact .inl (by decide +kernel) | exact .inr (by decide +kernel)) (by rw [isSubtype_type]; kernel_rfl)
theorem entry_si_iter : entryFor table "set_iterator.__iter__" = some Builtin.«dict_keyiterator.__iter__» :=
  entryFor_alias (id' := "dict_keyiterator.__iter__") (by kernel_rfl) rfl (by decide +kernel) (by kernel_rfl)
theorem args_si_iter (a : Value) : argsOk "set_iterator.__iter__" ⟨[a], []⟩ := by unfold argsOk; kernel_rfl
end FS
/-- the iterator of a set -/
abbrev IsSetIter (h : Heap) (I a : Addr) (first : Value) (i n ep : Nat) : Prop :=
  h.get? I = some { cls := .type "set_iterator", dict := none, data := .fields #[first, .int i 0, .ref a, .int n 0, .int ep 0] }
/-- the order in which the iterator goes -/
inductive SOrd (w : World) (a : Addr) (es : Array (Int × Value)) (ep : Nat) (t : SetTable) : (Nat → Value) → List Value → List (Addr × Obj) → Prop
  | drawn (T : Addr) (places : List Nat) (h0 : byTx w = false) (hp : places.Perm (List.range es.size)) (h2 : 1 < es.size) :
    SOrd w a es ep t (fun _ => .ref T) (places.filterMap fun p => (es[p]?).map (·.2)) [(T, { cls := .type "tuple", data := .seq (places.map fun (i : Nat) => rawInt i).toArray })]
  | text (h0 : byTx w = true) : SOrd w a es ep t (fun _ => rawInt 0) ((pickOrder (w.params.setOrder a ep) es).toList.map (·.2)) []
  | few (h0 : byTx w = false) (h2 : es.size ≤ 1) : SOrd w a es ep t (fun i => rawInt (if i = 0 then 0 else t.place.getD 0 0 + 1)) (es.toList.map (·.2)) []
theorem fm_range (es : Array (Int × Value)) : ((List.range es.size).filterMap fun p => (es[p]?).map (·.2)) = es.toList.map (·.2) := by
  have := filterMap_getElem?_range es
  rw [← this, List.map_filterMap]
theorem SOrd.perm {w : World} {a : Addr} {es : Array (Int × Value)} {ep : Nat} {t : SetTable} {f : Nat → Value} {vs : List Value} {ob : List (Addr × Obj)} (h : SOrd w a es ep t f vs ob) : vs.Perm (es.toList.map (·.2)) := by
  cases h with
  | drawn T places h0 hp h2 => rw [← fm_range]; exact hp.filterMap _
  | text h0 => exact (pick_perm _ _).map _
  | few h0 h2 => exact .refl _
section
variable {prog : Program} {w : World} {A : Around} {E : Value → Shared → Prop} {s : Shared}
theorem wpa_byText {Q : Bool → Shared → Prop} (h : Q (byTx w) s) : wpAny (model prog w) A setsByText Q E s := by
  unfold setsByText
  exact wpAny_bind (wpAny_askSetting (wpAny_pure h))
/-- iter(a), a a set of texts -/
theorem iter_tset {a : Addr} {es : Array (Int × Value)} {ep : Nat} {t : SetTable} {Q : Value → Shared → Prop} (ho : s.heap.get? a = some { cls := .type "set", dict := none, data := .set es ep t })
    (hf : t.fits es.size = true) (hp : es.size = 0 ∨ t.plain = false) (hz : es.size ≤ sizeLine)
    (hQ : ∀ h' d' I f vs ob, SOrd w a es ep t f vs ob → s.heap.objs.size ≤ I → IsSetIter h' I a (f 0) 0 es.size ep → (∀ p ∈ ob, h'.get? p.1 = some p.2 ∧ s.heap.objs.size ≤ p.1 ∧ p.1 ≠ I) → (∀ b o, s.heap.get? b = some o → h'.get? b = some o) →
      I < h'.objs.size → (∀ p ∈ ob, p.1 < h'.objs.size) → Q (.ref I) { s with heap := h', drawn := d' }) :
    wpAny (model prog w) A (pyIter (.ref a)) Q E s := by
  have hT : s.TypeIs (.ref a) "set" := ⟨_, ho, rfl⟩
  refine wpAny_pyIter_slot hT PySem.F.slot_set_iter (wpAny_call_entry PySem.F.slot_set_iter hT FS.entry_set_iter ?_ (PySem.F.args_set_iter_1 _))
  unfold Builtin.«frozenset.__iter__» Builtin.Frozenset.slot0 Builtin.Frozenset.sizeOf
  refine wpAny_bind (wpAny_bind (m := slotArgs _ _ _) (wpAny_pure (wpAny_pure ?_)))
  refine wpAny_bind (wpAny_bind (wpAny_setEntries_of ho rfl hf (wpAny_pure ?_)))
  dsimp only
  rw [setDrawn_eq]
  refine wpAny_bind (wpAny_bind (wpAny_setState_of ho rfl hf (wpAny_bind (wpa_byText (wpAny_pure ?_)))))
  by_cases hd : (!byTx w && (!t.plain && decide (es.size > 1))) = true
  · rw [if_pos hd]
    have hd' : byTx w = false ∧ 1 < es.size := by
      simp only [Bool.and_eq_true, Bool.not_eq_true', decide_eq_true_eq] at hd
      exact ⟨hd.1, hd.2.2⟩
    refine wpAny_bind (wpa_draw _ _ _ (by simp) fun ys d' hy => ?_)
    refine wpAny_bind (wpAny_newTuple ?_ (by rw [List.length_map, hy.length_eq, List.length_range]; exact hz))
    have ho2 : (s.heap.push { cls := .type "tuple", data := .seq (ys.map fun (i : Nat) => rawInt i).toArray }).get? a = some { cls := .type "set", dict := none, data := .set es ep t } := Heap.get?_push_of_some _ ho
    refine wpAny_bind (wpAny_setEpoch_of (s := { s with drawn := d', heap := s.heap.push { cls := .type "tuple", data := .seq (ys.map fun (i : Nat) => rawInt i).toArray } }) ho2 rfl hf ?_)
    refine wpAny_bind (wpAny_newObj_type (wpAny_pure ⟨_, rfl, "set_iterator", _, ⟨_, Heap.get?_push_size _ rfl, rfl⟩, FS.slot_si_next.lookup, ?_⟩))
    refine hQ _ d' _ _ _ _ (.drawn s.heap.objs.size ys hd'.1 hy hd'.2) ?_ (Heap.get?_push_size _ rfl) (fun p hp => ?_) (fun b o e => Heap.get?_push_of_some _ (Heap.get?_push_of_some _ e)) ?_ (fun p hp => ?_)
    · rw [Heap.size_push]; exact Nat.le_succ _
    · rw [List.mem_singleton] at hp
      subst hp
      exact ⟨Heap.get?_push_of_some _ (Heap.get?_push_size _ rfl), Nat.le_refl _, by rw [Heap.size_push]; exact Nat.ne_of_lt (Nat.lt_succ_self _)⟩
    · simp only [Heap.size_push]; omega
    · rw [List.mem_singleton] at hp
      subst hp
      show s.heap.objs.size < _
      simp only [Heap.size_push]; omega
  · rw [if_neg hd]
    refine wpAny_bind (wpAny_pure ?_)
    refine wpAny_bind (wpAny_setEpoch_of ho rfl hf ?_)
    refine wpAny_bind (wpAny_newObj_type (wpAny_pure ⟨_, rfl, "set_iterator", _, ⟨_, Heap.get?_push_size _ rfl, rfl⟩, FS.slot_si_next.lookup, ?_⟩))
    cases hb : byTx w with
    | true =>
      exact hQ _ s.drawn _ _ _ _ (.text hb) (Nat.le_refl _) (Heap.get?_push_size _ rfl) (fun p hp => nomatch hp) (fun b o e => Heap.get?_push_of_some _ e) (by rw [Heap.size_push]; exact Nat.lt_succ_self _) (fun p hp => nomatch hp)
    | false =>
      refine hQ _ s.drawn _ _ _ _ (.few hb ?_) (Nat.le_refl _) (Heap.get?_push_size _ rfl) (fun p hp => nomatch hp) (fun b o e => Heap.get?_push_of_some _ e) (by rw [Heap.size_push]; exact Nat.lt_succ_self _) (fun p hp => nomatch hp)
      rcases hp with h | h
      · omega
      · simp [hb, h] at hd
        exact hd

end
end L2

set_option Elab.async false
set_option linter.all false
set_option maxRecDepth 100000
set_option exponentiation.threshold 2000
namespace L2
open PySem PySem.Spec PyProof.Rows
section
variable {prog : Program} {w : World} {A : Around} {E : Value → Shared → Prop} {s : Shared}

/-- what the walk stands on -/
def SSt (w : World) (I a : Addr) (es : Array (Int × Value)) (ep : Nat) (t : SetTable) (f : Nat → Value) (ob : List (Addr × Obj)) (i : Nat) (h : Heap) : Prop :=
  IsSetIter h I a (f i) i es.size ep ∧ h.get? a = some { cls := .type "set", dict := none, data := .set es ep t } ∧ ∀ p ∈ ob, h.get? p.1 = some p.2
theorem below_one (p : Nat) : SetTable.below #[p] 0 = 0 ∧ SetTable.below #[p] (p + 1) = 1 := by
  constructor
  · simp [SetTable.below, SetTable.below.go]
  · simp [SetTable.below, SetTable.below.go]
theorem setIt_upd {h : Heap} {I a : Addr} {first x : Value} {i n ep k : Nat} (hi : IsSetIter h I a first i n ep) (f : Array Value → Array Value) :
    (h.update I (Obj.mapFields f)).get? I = some { cls := .type "set_iterator", dict := none, data := .fields (f #[first, .int i 0, .ref a, .int n 0, .int ep 0]) } := by
  have := Heap.get?_update_self (Obj.mapFields f) hi rfl
  exact this
set_option maxHeartbeats 1000000 in
theorem next_tset {I a : Addr} {es : Array (Int × Value)} {ep : Nat} {t : SetTable} {f : Nat → Value} {vs : List Value} {ob : List (Addr × Obj)} {i : Nat} {v : Value} {Q : Option Value → Shared → Prop}
    (hO : SOrd w a es ep t f vs ob) (hf : t.fits es.size = true) (hl : t.led = !byTx w) (hne : a ≠ I) (hob : ∀ p ∈ ob, p.1 ≠ I) (hS : SSt w I a es ep t f ob i s.heap) (hv : vs[i]? = some v)
    (hQ : ∀ h', SSt w I a es ep t f ob (i + 1) h' → Heap.SameBut I s.heap h' → Q (some v) { s with heap := h' }) :
    wpAny (model prog w) A (pyNext (.ref I)) Q E s := by
  obtain ⟨hi, ha, hbs⟩ := hS
  have hT : s.TypeIs (.ref I) "set_iterator" := ⟨_, hi, rfl⟩
  unfold pyNext
  refine wpAny_bind (wpAny_attempt (wpAny_callSpecial?_slot (name := Str.ofString "__next__") hT FS.slot_si_next
    (wpAny_call_entry FS.slot_si_next hT FS.entry_si_next ?_ (FS.args_si_next _))))
  unfold Builtin.«set_iterator.__next__»
  refine wpAny_bind (m := slotArgs _ _ _) (wpAny_pure ?_)
  dsimp only
  refine wpAny_bind (wpAny_fieldsOf hi rfl ?_)
  dsimp only
  refine wpAny_bind (wpAny_setEntries_of ha rfl hf ?_)
  rw [if_neg (by simp)]
  have hil : i < vs.length := (List.getElem?_eq_some_iff.mp hv).1
  have fin : ∀ (first : Value) (h' : Heap), Heap.SameBut I s.heap h' → IsSetIter h' I a (f (i + 1)) (i + 1) es.size ep → Q (some v) { s with heap := h' } := fun first h' sb hi' =>
    hQ h' ⟨hi', by rw [sb.2 a hne]; exact ha, fun p hp => by rw [sb.2 p.1 (hob p hp)]; exact hbs p hp⟩ sb
  cases hO with
  | drawn T places h0 hp h2 =>
    dsimp only
    have hTt := hbs _ (List.mem_singleton.mpr rfl)
    refine wpAny_bind (wpAny_seqItems hTt rfl ?_)
    have hpl : places.length = es.size := by rw [hp.length_eq, List.length_range]
    have hall : ∀ p ∈ places, p < es.size := fun p hm => by simpa using hp.mem_iff.mp hm
    have hfm : ∀ (l : List Nat), (∀ p ∈ l, p < es.size) → (l.filterMap fun p => (es[p]?).map (·.2)) = l.map fun p => (es.getD p (0, .none)).2 := by
      intro l
      induction l with
      | nil => intro _; rfl
      | cons q l ih =>
        intro hq
        have hq0 : q < es.size := hq q (by simp)
        have h1 : es[q]? = some es[q] := Array.getElem?_eq_getElem hq0
        rw [List.filterMap_cons, h1, List.map_cons, ← ih fun p hm => hq p (by simp [hm])]
        simp [Array.getD, hq0]
    rw [hfm places hall, List.getElem?_map] at hv
    cases hpi : places[i]? with
    | none => rw [hpi] at hv; cases hv
    | some pl =>
      rw [hpi] at hv
      have hlt : pl < es.size := hall pl (List.mem_of_getElem? hpi)
      have hvv : v = es[pl].2 := by
        have : (es.getD pl (0, .none)).2 = v := Option.some.inj hv
        rw [← this]
        simp [Array.getD, hlt]
      have hpi' : (places.map fun (i : Nat) => rawInt i).toArray[i]? = some (.int pl 0) := by
        rw [List.getElem?_toArray, List.getElem?_map, hpi]; rfl
      show wpAny _ _ (match (places.map fun (i : Nat) => rawInt i).toArray[(i : Int).toNat]? with | some (.int place _) => _ | some _ => _ | none => _) _ _ _
      rw [Int.toNat_natCast, hpi']
      dsimp only
      unfold setNextDrawn
      refine wpAny_bind (wpAny_bind (wpAny_setState_of ha rfl hf ?_))
      dsimp only
      rw [if_neg (by simp)]
      rw [Int.toNat_natCast, Array.getElem?_eq_getElem hlt]
      dsimp only
      refine wpAny_pure ?_
      refine wpAny_bind (wpAny_setField hi rfl (by simp) ?_)
      refine wpAny_pure ⟨_, rfl, wpAny_pure ?_⟩
      rw [← hvv]
      exact fin v _ (Heap.SameBut.update ..) (setIt_upd (x := v) (k := 0) hi _)
  | text h0 =>
    show wpAny _ _ (setNext a 0 (i : Int).toNat (ep : Int).toNat >>= _) _ _ _
    rw [setNext_eq, Int.toNat_natCast, Int.toNat_natCast]
    refine wpAny_bind (wpAny_bind (wpAny_setState_of ha rfl hf (wpAny_bind (wpa_byText ?_))))
    rw [if_pos h0]
    dsimp only
    rw [if_neg (by simp)]
    unfold setWalk
    refine wpAny_bind (wpAny_bind (wpAny_setState_of ha rfl hf (wpAny_bind (wpa_byText ?_))))
    rw [if_pos h0]
    refine wpAny_bind (wpAny_askSetting (wpAny_pure (wpAny_pure ?_)))
    rw [List.getElem?_map, Array.getElem?_toList] at hv
    cases hpk : (pickOrder (w.params.setOrder a ep) es)[i]? with
    | none => rw [hpk] at hv; cases hv
    | some e =>
      rw [hpk] at hv
      show wpAny _ _ (match ((pickOrder (w.params.setOrder a ep) es)[i]?).map fun e => (e.2, 0) with | some (x, next) => _ | none => _) _ _ _
      rw [hpk]
      have hvv : e.2 = v := Option.some.inj hv
      dsimp only [Option.map]
      refine wpAny_bind (wpAny_setField hi rfl (by simp) ?_)
      have hi1 := setIt_upd (x := v) (k := 0) hi (·.setIfInBounds 0 (rawInt (0 : Nat)))
      refine wpAny_bind (wpAny_setField (s := { s with heap := s.heap.update I (Obj.mapFields (·.setIfInBounds 0 (rawInt (0 : Nat)))) }) hi1 rfl (by simp) ?_)
      refine wpAny_pure ⟨_, rfl, wpAny_pure ?_⟩
      rw [hvv]
      refine fin v _ ((Heap.SameBut.update ..).trans (Heap.SameBut.update ..)) ?_
      exact setIt_upd (x := v) (k := 0) (i := i) (first := rawInt 0) (n := es.size) (ep := ep) (a := a) (by exact hi1) _
  | few h0 h2 =>
    have hi0 : i = 0 := by rw [List.length_map, Array.length_toList] at hil; omega
    subst hi0
    have hsz : es.size = 1 := by rw [List.length_map, Array.length_toList] at hil; omega
    show wpAny _ _ (setNext a 0 (0 : Int).toNat (ep : Int).toNat >>= _) _ _ _
    rw [setNext_eq, Int.toNat_natCast]
    refine wpAny_bind (wpAny_bind (wpAny_setState_of ha rfl hf (wpAny_bind (wpa_byText ?_))))
    rw [if_neg (by rw [h0]; simp)]
    dsimp only
    rw [if_neg (by simp [hsz])]
    rw [hl, h0]
    refine wpAny_bind (m := ite _ _ _) ?_
    rw [if_neg (by simp)]
    refine wpAny_pure ?_
    obtain ⟨p, hpp⟩ : ∃ p, t.place = #[p] := by
      have h1 : t.place.size = 1 := by
        simp only [SetTable.fits, Bool.and_eq_true, beq_iff_eq] at hf
        rw [hf.1, hsz]
      generalize t.place = tp at h1
      obtain ⟨pl⟩ := tp
      cases pl with
      | nil => simp at h1
      | cons p r => cases r with
        | nil => exact ⟨p, rfl⟩
        | cons q r => simp at h1
    obtain ⟨⟨eh, ev⟩, hes⟩ : ∃ e, es = #[e] := by
      obtain ⟨el⟩ := es
      cases el with
      | nil => simp at hsz
      | cons p r => cases r with
        | nil => exact ⟨p, rfl⟩
        | cons q r => simp at hsz
    subst hes
    have hvv : ev = v := by simpa using hv
    subst hvv
    rw [hpp, (below_one p).1]
    refine wpAny_pure ?_
    show wpAny _ _ (setField (.ref I) 0 (rawInt ((p + 1 : Nat) : Int)) >>= _) _ _ _
    refine wpAny_bind (wpAny_setField hi rfl (by simp) ?_)
    have hi1 := setIt_upd (x := ev) (k := 0) hi (·.setIfInBounds 0 (rawInt ((p + 1 : Nat) : Int)))
    refine wpAny_bind (wpAny_setField (s := { s with heap := s.heap.update I (Obj.mapFields (·.setIfInBounds 0 (rawInt ((p + 1 : Nat) : Int)))) }) hi1 rfl (by simp) ?_)
    refine wpAny_pure ⟨_, rfl, wpAny_pure ?_⟩
    refine fin ev _ ((Heap.SameBut.update ..).trans (Heap.SameBut.update ..)) ?_
    have := setIt_upd (x := ev) (k := 0) (i := 0) (first := rawInt ((p + 1 : Nat) : Int)) (n := 1) (ep := ep) (a := a) (by exact hi1) (·.setIfInBounds 1 (rawInt ((0 : Nat) + 1 : Int)))
    rw [hpp]
    exact this
end
end L2

set_option Elab.async false
set_option linter.all false
set_option maxRecDepth 100000
set_option exponentiation.threshold 2000
namespace L2
open PySem PySem.Spec PyProof.Rows
section
variable {prog : Program} {w : World} {A : Around} {E : Value → Shared → Prop} {s : Shared}
theorem stop_now {h1 : Heap} {I : Addr} {P : Fin → Shared → Prop} {Q : Option Value → Shared → Prop} (hh : A.handled = none) (sb : Heap.SameBut I s.heap h1) (hQ : ∀ h', Heap.ExtBut I s.heap h' → Q none { s with heap := h' }) :
    wpAny (model prog w) A.in1 (newExc (.type "StopIteration") [] >>= fun x => raiseNew x) P
      (fun e s' => wpAny (model prog w) A (do if ← isInstance e (.type "StopIteration") then pure none else throw e) Q E s') { s with heap := h1 } := by
  refine wpAny_bind ?_
  simp only [newExc, newTuple]
  refine wpAny_bind (wpAny_newObj_type ?_ (by size_fits))
  refine wpAny_bind (m := firstArgMember _ _) (wpAny_of_eq (a := Value.none) (by first | rfl | (simp only [firstArgMember]; rfl)) ?_)
  refine wpAny_newObj_type ?_ (by size_fits)
  simp only [raiseNew]
  refine wpAny_bind (wpAny_handled ?_)
  rw [show A.in1.handled = none from hh]
  refine wpAny_bind (wpAny_pure (wpAny_throw ?_))
  refine wpAny_bind (wpAny_isInstance (T := "StopIteration") (b := true) ⟨_, Heap.get?_push_size _ rfl, rfl⟩ isSubtype_stop ?_)
  exact wpAny_pure (hQ _ ((sb.extBut.push _).push _))
set_option maxHeartbeats 1000000 in
theorem end_tset {I a : Addr} {es : Array (Int × Value)} {ep : Nat} {t : SetTable} {f : Nat → Value} {vs : List Value} {ob : List (Addr × Obj)} {Q : Option Value → Shared → Prop} (hh : A.handled = none)
    (hO : SOrd w a es ep t f vs ob) (hf : t.fits es.size = true) (hl : t.led = !byTx w) (hne : a ≠ I) (hob : ∀ p ∈ ob, p.1 ≠ I) (hS : SSt w I a es ep t f ob es.size s.heap)
    (hQ : ∀ h', Heap.ExtBut I s.heap h' → Q none { s with heap := h' }) :
    wpAny (model prog w) A (pyNext (.ref I)) Q E s := by
  obtain ⟨hi, ha, hbs⟩ := hS
  have hT : s.TypeIs (.ref I) "set_iterator" := ⟨_, hi, rfl⟩
  unfold pyNext
  refine wpAny_bind (wpAny_attempt (wpAny_callSpecial?_slot (name := Str.ofString "__next__") hT FS.slot_si_next
    (wpAny_call_entry FS.slot_si_next hT FS.entry_si_next ?_ (FS.args_si_next _))))
  unfold Builtin.«set_iterator.__next__»
  refine wpAny_bind (m := slotArgs _ _ _) (wpAny_pure ?_)
  dsimp only
  refine wpAny_bind (wpAny_fieldsOf hi rfl ?_)
  dsimp only
  refine wpAny_bind (wpAny_setEntries_of ha rfl hf ?_)
  rw [if_neg (by simp)]
  cases hO with
  | drawn T places h0 hp h2 =>
    dsimp only
    have hTt := hbs _ (List.mem_singleton.mpr rfl)
    refine wpAny_bind (wpAny_seqItems hTt rfl ?_)
    have hpl : places.length = es.size := by rw [hp.length_eq, List.length_range]
    have hpi' : (places.map fun (i : Nat) => rawInt i).toArray[es.size]? = none := by
      rw [List.getElem?_toArray, List.getElem?_map, List.getElem?_eq_none (by omega)]; rfl
    show wpAny _ _ (match (places.map fun (i : Nat) => rawInt i).toArray[(es.size : Int).toNat]? with | some (.int place _) => _ | some _ => _ | none => _) _ _ _
    rw [Int.toNat_natCast, hpi']
    dsimp only
    refine wpAny_bind (wpAny_setField hi rfl (by simp) ?_)
    have hi1 := setIt_upd (x := .none) (k := 0) hi (·.setIfInBounds 0 (rawInt 0))
    refine wpAny_bind (wpAny_setField (s := { s with heap := s.heap.update I (Obj.mapFields (·.setIfInBounds 0 (rawInt 0))) }) hi1 rfl (by simp) ?_)
    exact stop_now (s := s) (I := I) hh ((Heap.SameBut.update ..).trans (Heap.SameBut.update ..)) hQ
  | text h0 =>
    show wpAny _ _ (setNext a 0 (es.size : Int).toNat (ep : Int).toNat >>= _) _ _ _
    rw [setNext_eq, Int.toNat_natCast, Int.toNat_natCast]
    refine wpAny_bind (wpAny_bind (wpAny_setState_of ha rfl hf (wpAny_bind (wpa_byText ?_))))
    rw [if_pos h0]
    dsimp only
    rw [if_neg (by simp)]
    unfold setWalk
    refine wpAny_bind (wpAny_bind (wpAny_setState_of ha rfl hf (wpAny_bind (wpa_byText ?_))))
    rw [if_pos h0]
    refine wpAny_bind (wpAny_askSetting (wpAny_pure (wpAny_pure ?_)))
    have hpk : (pickOrder (w.params.setOrder a ep) es)[es.size]? = none := by
      have h1 := (pick_perm (w.params.setOrder a ep) es).length_eq
      rw [Array.length_toList, Array.length_toList] at h1
      exact Array.getElem?_eq_none (by omega)
    show wpAny _ _ (match ((pickOrder (w.params.setOrder a ep) es)[es.size]?).map fun e => (e.2, 0) with | some (x, next) => _ | none => _) _ _ _
    rw [hpk]
    dsimp only [Option.map]
    refine wpAny_bind (wpAny_setField hi rfl (by simp) ?_)
    exact stop_now (s := s) (I := I) hh (Heap.SameBut.update ..) hQ
  | few h0 h2 =>
    show wpAny _ _ (setNext a (if es.size = 0 then (0 : Int) else (t.place.getD 0 0 : Int) + 1).toNat (es.size : Int).toNat (ep : Int).toNat >>= _) _ _ _
    rw [setNext_eq, Int.toNat_natCast]
    refine wpAny_bind (wpAny_bind (wpAny_setState_of ha rfl hf (wpAny_bind (wpa_byText ?_))))
    rw [if_neg (by rw [h0]; simp)]
    dsimp only
    rw [if_neg (by simp; intro _; omega)]
    rw [hl, h0]
    refine wpAny_bind (m := ite _ _ _) ?_
    rw [if_neg (by simp)]
    refine wpAny_pure ?_
    have hps : t.place.size = es.size := by
      simp only [SetTable.fits, Bool.and_eq_true, beq_iff_eq] at hf
      exact hf.1
    have hnone : es[SetTable.below t.place (if es.size = 0 then (0 : Int) else (t.place.getD 0 0 : Int) + 1).toNat]? = none := by
      generalize t.place = tp at hps
      obtain ⟨pl⟩ := tp
      cases pl with
      | nil =>
        have : es.size = 0 := by simpa using hps.symm
        exact Array.getElem?_eq_none (by omega)
      | cons p r =>
        cases r with
        | nil =>
          have h1 : es.size = 1 := by simpa using hps.symm
          rw [if_neg (by omega)]
          have : ((([p].toArray).getD 0 0 : Nat) : Int) + 1 = ((p + 1 : Nat) : Int) := rfl
          rw [this, Int.toNat_natCast, (below_one p).2]
          exact Array.getElem?_eq_none (by omega)
        | cons q r =>
          have : es.size = r.length + 2 := by simpa using hps.symm
          omega
    rw [hnone]
    refine wpAny_pure ?_
    show wpAny _ _ (setField (.ref I) 2 .none >>= _) _ _ _
    refine wpAny_bind (wpAny_setField hi rfl (by simp) ?_)
    exact stop_now (s := s) (I := I) hh (Heap.SameBut.update ..) hQ
theorem self_tset {I a : Addr} {first : Value} {i n ep : Nat} {Q : Value → Shared → Prop} (hi : IsSetIter s.heap I a first i n ep) (h : Q (.ref I) s) : wpAny (model prog w) A (pyIter (.ref I)) Q E s := by
  have hT : s.TypeIs (.ref I) "set_iterator" := ⟨_, hi, rfl⟩
  refine wpAny_pyIter_slot hT FS.slot_si_iter (wpAny_call_entry FS.slot_si_iter hT FS.entry_si_iter ?_ (FS.args_si_iter _))
  show wpAny _ _ (ret (.ref I)) _ _ s
  exact wpAny_pure ⟨_, rfl, "set_iterator", _, hT, FS.slot_si_next.lookup, h⟩
end
theorem walks_tset {prog : Program} {w : World} {A : Around} {I a : Addr} {es : Array (Int × Value)} {ep : Nat} {t : SetTable} {f : Nat → Value} {vs : List Value} {ob : List (Addr × Obj)} (hh : A.handled = none)
    (hO : SOrd w a es ep t f vs ob) (hf : t.fits es.size = true) (hl : t.led = !byTx w) (hne : a ≠ I) (hob : ∀ p ∈ ob, p.1 ≠ I) :
    Walks prog w A I (I :: a :: ob.map (·.1)) [I] es.size (fun i v => vs[i]? = some v) (SSt w I a es ep t f ob) where
  sub := fun b hb => by simp at hb; simp [hb]
  frame := fun i h h' st hk => ⟨hk I (by simp) _ st.1, hk a (by simp) _ st.2.1, fun p hp => hk p.1 (by simp; exact .inr (.inr ⟨p.2, hp⟩)) _ (st.2.2 p hp)⟩
  item := fun i s Q E hi st hQ => by
    have hlen : vs.length = es.size := by rw [hO.perm.length_eq, List.length_map, Array.length_toList]
    refine next_tset hO hf hl hne hob st (v := vs[i]'(by omega)) (List.getElem?_eq_getElem (by omega)) fun h' st' sb => ?_
    exact hQ _ h' s.toks (List.getElem?_eq_getElem (by omega)) st' fun b o hb e => sb.extBut b o (fun h => hb (by simp [h])) e
  done := fun s Q E st hQ => end_tset hh hO hf hl hne hob st fun h' he' => hQ h' s.toks fun b o hb e => he' b o (fun h => hb (by simp [h])) e
  self := fun _ _ _ _ st hQ => self_tset st.1 hQ
end L2

set_option Elab.async false
set_option linter.all false
set_option maxRecDepth 100000
set_option exponentiation.threshold 2000
namespace L2
open PySem PySem.Spec PyProof.Rows
namespace FS
theorem set_len : typeLookup (.type "set") "__len__" = pure (some (.builtin "set.__len__")) := by rw [typeLookup_type, builtinLookup_eq_fast]; kernel_rfl
theorem split_set_len : splitId "set.__len__" = some ("set", "__len__") := by decide +kernel
end FS
section
variable {prog : Program} {w : World} {A : Around} {E : Value → Shared → Prop} {s : Shared}
theorem hint_tset {a : Addr} {Q : Bool → Shared → Prop} (hT : s.TypeIs (.ref a) "set") (h : Q false s) : wpAny (model prog w) A (Builtin.List.listLengthHint (.ref a)) Q E s := by
  unfold Builtin.List.listLengthHint
  refine wpAny_bind (wpAny_specialOf hT FS.set_len ?_)
  dsimp only
  generalize hid : ("set.__len__" : String) = id0
  rw [show splitId id0 = some ("set", "__len__") from by subst hid; exact FS.split_set_len]
  subst hid
  dsimp only
  refine wpAny_bind (wpAny_isInstance (b := true) hT sub_set_self ?_)
  simp only [Bool.not_true, Bool.false_eq_true, if_false]
  refine wpAny_bind (wpAny_typeOf hT (wpAny_pure h))
set_option maxHeartbeats 1000000 in
theorem collect_tset {a : Addr} {ks : List Str} {Q : List Value → Shared → Prop} (hh : A.handled = none) (T : TxSet prog w s.heap a ks)
    (hQ : ∀ h' d' tk vs js, StrsAre vs js → js.Perm ks → s.heap.objs.size < h'.objs.size → (∀ b o, s.heap.get? b = some o → h'.get? b = some o) → Q vs { s with heap := h', drawn := d', toks := tk }) :
    wpAny (model prog w) A (collect (.ref a)) Q E s := by
  obtain ⟨⟨es, ep, t, ho, hel, hks, hf, hled, hpl⟩, hnd, hfew⟩ := T
  have hsz : es.size = ks.length := by rw [← strsAre_len hks, List.length_map, Array.length_toList]
  have haS : a < s.heap.objs.size := Heap.lt_size ho
  unfold collect
  refine wpAny_bind (wpAny_runValue (codeAny_builtin PySem.F.entry_proto_collect ?_))
  rw [Around.under_plainId PySem.F.plain_proto_collect _]
  show wpAny _ A.in1 (newList [] >>= fun l => again (.builtin "list.__iadd__" ⟨[l, .ref a], []⟩)) _ _ s
  refine wpAny_bind (wpAny_newObj_type ?_)
  refine wpAny_pure ⟨plainId_quiet PySem.F.plain_list_iadd _, codeAny_builtin PySem.F.entry_list_iadd ?_⟩
  rw [Around.under_plainId PySem.F.plain_list_iadd _]
  generalize hh1 : s.heap.push { cls := .type "list", data := .seq ([] : List Value).toArray } = h1
  have hk1 : ∀ b o, s.heap.get? b = some o → h1.get? b = some o := fun b o e => by rw [← hh1]; exact Heap.get?_push_of_some _ e
  have hS1 : h1.get? s.heap.objs.size = some { cls := .type "list", data := .seq ([] : List Value).toArray } := by rw [← hh1]; exact Heap.get?_push_size _ rfl
  have hz1 : s.heap.objs.size < h1.objs.size := Heap.lt_size hS1
  show wpAny _ A.in1 (Builtin.List.listExtendWith (.ref s.heap.objs.size) (.ref a) (.ref s.heap.objs.size)) _ _ { s with heap := h1 }
  unfold Builtin.List.listExtendWith
  have hT1 : Shared.TypeIs { s with heap := h1 } (.ref a) "set" := ⟨_, hk1 _ _ ho, rfl⟩
  refine wpAny_bind (wpAny_typeOf hT1 ?_)
  have e1 : Builtin.List.listSameRef (.ref s.heap.objs.size) (.ref a) = false := by
    unfold Builtin.List.listSameRef
    exact beq_eq_false_iff_ne.mpr (Ne.symm (Nat.ne_of_lt haS))
  rw [if_neg (by rw [e1]; decide)]
  refine wpAny_bind (iter_tset (s := { s with heap := h1 }) (hk1 _ _ ho) hf hpl (by rw [hsz]; exact fits_of_scanBound hfew) fun h2 d2 I f vs ob hO hI hi hob hk2 hI2 hob2 => ?_)
  refine wpAny_bind (wpAny_holding (hint_tset (s := { s with heap := h2, drawn := d2 }) ⟨_, hk2 _ _ (hk1 _ _ ho), rfl⟩ ?_))
  rw [if_pos (by decide)]
  refine wpAny_bind (wpAny_rule ?_)
  have hS2 : h2.get? s.heap.objs.size = some { cls := .type "list", data := .seq ([] : List Value).toArray } := hk2 _ _ hS1
  refine wpAny_bind ?_
  show wpAny _ A.in1 (updateSeq s.heap.objs.size (·.push .none) >>= fun _ => updateSeq s.heap.objs.size (·.pop)) _ _ { s with heap := h2, drawn := d2 }
  refine wpAny_bind (wpAny_updateSeq hS2 rfl ?_)
  have hS3 := Heap.get?_update_self (Obj.mapSeq (·.push Value.none)) hS2 rfl
  refine wpAny_updateSeq hS3 rfl ?_
  have hS4 := Heap.get?_update_self (Obj.mapSeq (·.pop)) hS3 rfl
  have oth : ∀ b o, b ≠ s.heap.objs.size → h2.get? b = some o → ((h2.update s.heap.objs.size (Obj.mapSeq (·.push Value.none))).update s.heap.objs.size (Obj.mapSeq (·.pop))).get? b = some o :=
    fun b o hb e => (Heap.get?_update_other _ _ (Ne.symm hb)).trans ((Heap.get?_update_other _ _ (Ne.symm hb)).trans e)
  have hIne : I ≠ s.heap.objs.size := Ne.symm (Nat.ne_of_lt (Nat.lt_of_lt_of_le hz1 hI))
  have hane : a ≠ I := Nat.ne_of_lt (Nat.lt_of_lt_of_le haS (Nat.le_trans (Nat.le_of_lt hz1) hI))
  have hobne : ∀ p ∈ ob, p.1 ≠ s.heap.objs.size := fun p hp => Ne.symm (Nat.ne_of_lt (Nat.lt_of_lt_of_le hz1 (hob p hp).2.1))
  have W := (walks_tset (prog := prog) (A := A.in1) (by simpa using hh) hO hf hled hane (fun p hp => (hob p hp).2.2)).toS
  have hlen : vs.length = es.size := by rw [hO.perm.length_eq, List.length_map, Array.length_toList]
  obtain ⟨js, hjs, hjp⟩ := strsAre_perm hO.perm hks
  refine wpAny_pure ⟨plainId_quiet PySem.F.plain_extend_loop _, codeAny_extend_loopS W (by rw [hsz]; exact fits_of_scanBound hfew) s.heap.objs.size ?_ _ es.size 0 _ _ _ rfl (Nat.zero_le _)
    ⟨oth _ _ hIne hi, oth _ _ (Nat.ne_of_lt haS) (hk2 _ _ (hk1 _ _ ho)), fun p hp => oth _ _ (hobne p hp) (hob p hp).1⟩ hS4 (ItemsOf.nil _) fun s' acc' c' hm hS' hacc => ?_⟩
  · intro hmem
    rw [List.mem_cons, List.mem_cons, List.mem_map] at hmem
    rcases hmem with h | h | ⟨p, hp, h⟩
    · exact hIne h.symm
    · exact Nat.ne_of_lt haS h.symm
    · exact hobne p hp h
  · show wpAny _ A (load s.heap.objs.size >>= _) _ _ s'
    refine wpAny_bind (wpAny_load hS' ?_)
    have hav : acc'.toList = vs := by
      apply List.ext_getElem?
      intro j
      by_cases hj : j < es.size
      · have hj' : j < acc'.size := by rw [hacc.1]; exact hj
        have h1 : acc'.toList[j]? = some acc'[j] := by rw [Array.getElem?_toList]; exact Array.getElem?_eq_getElem hj'
        rw [h1]
        exact (hacc.2 j _ (Array.getElem?_eq_getElem hj')).symm
      · rw [List.getElem?_eq_none (by rw [Array.length_toList, hacc.1]; omega), List.getElem?_eq_none (by omega)]
    obtain ⟨h', g', d', tk', os'⟩ := s'
    have eg : g' = s.gens := hm.gens
    have ed : d' = d2 := hm.drawn
    have eo : os' = s.os := hm.os
    subst eg; subst ed; subst eo
    refine wpAny_pure ?_
    rw [hav]
    refine hQ h' d' tk' vs js hjs hjp (Heap.lt_size hS') fun b o e => ?_
    have hb : b < s.heap.objs.size := Heap.lt_size e
    refine hm.heap b o ?_ (oth b o (Nat.ne_of_lt hb) (hk2 _ _ (hk1 _ _ e)))
    have h0 : h1.objs.size ≤ I := hI
    simp only [List.mem_cons, List.not_mem_nil, or_false, not_or]
    exact ⟨Nat.ne_of_lt hb, Nat.ne_of_lt (Nat.lt_of_lt_of_le hb (Nat.le_trans (Nat.le_of_lt hz1) hI))⟩
end
end L2

set_option Elab.async false
set_option linter.all false
set_option maxRecDepth 100000
set_option exponentiation.threshold 2000
/-! sorted(set(xs)), xs a list of texts -/
namespace L2
open PySem PySem.Spec PyProof.Rows
section
variable {prog : Program} {w : World} {A : Around} {E : Value → Shared → Prop} {s : Shared}
theorem sorted_tset {a : Addr} {ks : List Str} {Q : Value → Shared → Prop} (hh : A.handled = none) (T : TxSet prog w s.heap a ks) (h64 : ks.length < 64)
    (h : ∀ (p : Addr) (h' : Heap) (d' : Drawn) (tk : Nat) (out : Array Value) (ms : List Str) (e : Nat), StrsAre out.toList ms → ms.Perm ks → sortedS ms = true → s.heap.objs.size ≤ p → h'.get? p = some (seqObj "list" out e) →
      (∀ b o, s.heap.get? b = some o → h'.get? b = some o) → Q (.ref p) { s with heap := h', drawn := d', toks := tk }) :
    wpAny (model prog w) A (call (.builtin "sorted") [.ref a]) Q E s := by
  refine Calls.call_function_entry kind_sorted plain_sorted entry_sorted (args_sorted1 _) ?_
  unfold Builtin.«sorted»
  refine wpAny_bind (m := checkCount "sorted" 1 1 _) (wpAny_pure ?_)
  refine wpAny_bind (collect_tset (by simpa using hh) T fun h1 d1 tk1 vs js hv hp hz hk => ?_)
  have hvl : vs.length = ks.length := by rw [strsAre_len hv, hp.length_eq]
  refine wpAny_bind (wpAny_newList ?_ (by rw [sizeLine_eq]; omega))
  have hoL : (h1.push (seqObj "list" vs.toArray 0)).get? h1.objs.size = some (seqObj "list" vs.toArray 0) := Heap.get?_push_size _ rfl
  show wpAny _ _ (holding _ _ >>= _) _ _ { s with heap := h1.push (seqObj "list" vs.toArray 0), drawn := d1, toks := tk1 }
  refine wpAny_bind (wpAny_holding (wpAny_call_entry slot_list_sort ⟨_, hoL, rfl⟩ entry_list_sort (list_sort_treeK strKind_oneLt hoL hv.keysOf (fun v₁ v₂ rest e => keyKind_strs (by rw [← e]; exact hv)) (by omega) fun st' a1 a2 => ⟨_, rfl, ?_⟩) (args_list_sort _)))
  obtain ⟨ms, m1, m2, m3⟩ := sorted_out_str hv a1 a2
  obtain ⟨e, he⟩ := sortedHeap_at (out := (arrOf st').map (·.2)) hoL
  refine wpAny_pure ⟨_, rfl, h h1.objs.size _ d1 tk1 _ ms e m1 (m2.trans hp) m3 (Nat.le_of_lt hz) he fun b o eb => ?_⟩
  · have hb : b < h1.objs.size := Heap.lt_size (hk b o eb)
    rw [sortedHeap_old (Nat.ne_of_lt hb) (by rw [size_push']; exact Nat.lt_succ_of_lt hb)]
    exact Heap.get?_push_of_some _ (hk b o eb)

end
section
variable {X : Cx} {e : Expr} {te : TE} {pos p2 p3 p4 : Pos}
def tSortSet (K : PySem.W.Frag) (te : TE) : TE := fun σ H Q => te σ H fun x H1 => ∃ (a : Addr) (ts : List Str), [x] = [V.ref a] ∧ SqL K H1 a (ts.map V.str) ∧ ts.length < 64 ∧
  ∀ (p : Addr) (ms : List Str), ms.Nodup → (∀ x, x ∈ ms ↔ x ∈ ts) → ms.length ≤ ts.length → sortedS ms = true → H1 p = none → Q (.ref p) (upd H1 p (.lst (ms.map V.str)))
theorem pe_sortset (hc : X.calm = true) (he : PE X e te) (hg : Gl X "sorted") (hm : X.mg "sorted" = none) (hg2 : Gl X "set") (hm2 : X.mg "set" = none)
    (h1 : starEach [e] X.env = (false, eval e X.env) :: starEach [] X.env := by rfl)
    (h2 : starEach [.Call (.Name "set" p2) [e] [] p3] X.env = (false, eval (.Call (.Name "set" p2) [e] [] p3) X.env) :: starEach [] X.env := by rfl)
    (h3 : (backTo p3 (starEach [] X.env)).any (·.1) = false := by rfl) (h4 : (backTo pos (starEach [] X.env)).any (·.1) = false := by rfl) :
    PE X (.Call (.Name "sorted" p4) [.Call (.Name "set" p2) [e] [] p3] [] pos) (tSortSet X.K te) := by
  intro pins s σ H Q I h
  refine wpAny_Call_Name_kw (ld_blt I hg hm bt_sorted ?_ (by decide) (by decide))
  refine PyProof.Rows.callWith_builtin1 ?_ h2 h4
  rw [h2]
  show wpAny _ _ (spliced ((false, eval (.Call (.Name "set" p2) [e] [] p3) X.env) :: backTo pos (starEach [] X.env))) _ _ s
  refine Calls.spliced_cons ?_
  refine wpAny_Call_Name_kw (ld_blt I hg2 hm2 bt_set ?_ (by decide) (by decide))
  refine PyProof.Rows.callWith_type1 (thn (pa_cons he pa_nil h1 p3 pins s σ H (fun vs H1 => ∃ (a : Addr) (ts : List Str), vs = [.ref a] ∧ SqL X.K H1 a (ts.map V.str) ∧ ts.length < 64 ∧
    ∀ (p : Addr) (ms : List Str), ms.Nodup → (∀ x, x ∈ ms ↔ x ∈ ts) → ms.length ≤ ts.length → sortedS ms = true → H1 p = none → Q (.ref p) (upd H1 p (.lst (ms.map V.str)))) I ?_) fun us s1 ⟨vs, H1, I1, r1, a, ts, hv, hq, hn, q⟩ => ?_) h1 h3
  · exact h
  subst hv
  obtain ⟨u1, rfl, v1⟩ := vals1 r1
  cases v1
  obtain ⟨its, rv, ht, hz⟩ := I1.list hq
  refine call_set_strs (I1.ok.hd hc) ht.isList (ts := ts) (by simpa using strsAre_of rv) (by unfold scanBound; omega) fun h' tk ks hT hl hmem kp => ?_
  have I2 : Inv X pins σ H1 { s1 with heap := h', toks := tk } := I1.kept fun b o e => kp b o (Heap.lt_size e) e
  refine Calls.spliced_nil ?_
  refine sorted_tset (s := { s1 with heap := h', toks := tk }) (I1.ok.hd hc) hT (by omega) fun p h2 d2 tk2 out ms ee a1 a2 a3 a4 a5 a6 => ?_
  have hn1 : H1 p = none := I2.hok.fresh a4
  have I3 : Inv X pins σ H1 { s1 with heap := h', drawn := d2, toks := tk } := ⟨I2.ok, I2.os, I2.bare, I2.base, I2.loc, I2.cell, I2.free, I2.freeC, I2.pin, I2.hok, I2.len⟩
  refine ⟨.ref p, upd H1 p (.lst (ms.map V.str)), I3.laid (t' := tk2) a6 a4 ?_, rfl, q p ms (a2.nodup_iff.mpr hT.nodup) (fun x => (a2.mem_iff).trans (hmem x)) (by rw [a2.length_eq]; exact hl) a3 hn1⟩
  have hlen : ms.length ≤ ts.length := by rw [a2.length_eq]; exact hl
  exact ⟨by rw [List.length_map, sizeLine_eq]; omega, out.toList, ee, vals_of_strs a1, by simpa [seqObj] using a5⟩
end
end L2

set_option Elab.async false
set_option linter.all false
set_option maxRecDepth 100000
set_option exponentiation.threshold 2000
/-! sorted(d), d a dict whose keys are texts -/
namespace L2
open PySem PySem.Spec PyProof.Rows
namespace FS
theorem dict_len : typeLookup (.type "dict") "__len__" = pure (some (.builtin "dict.__len__")) := by rw [typeLookup_type, builtinLookup_eq_fast]; kernel_rfl
theorem split_dict_len : splitId "dict.__len__" = some ("dict", "__len__") := by decide +kernel
end FS
section
variable {prog : Program} {w : World} {A : Around} {E : Value → Shared → Prop} {s : Shared}
theorem hint_dict {a : Addr} {Q : Bool → Shared → Prop} (hT : s.TypeIs (.ref a) "dict") (h : Q false s) : wpAny (model prog w) A (Builtin.List.listLengthHint (.ref a)) Q E s := by
  unfold Builtin.List.listLengthHint
  refine wpAny_bind (wpAny_specialOf hT FS.dict_len ?_)
  dsimp only
  generalize hid : ("dict.__len__" : String) = id0
  rw [show splitId id0 = some ("dict", "__len__") from by subst hid; exact FS.split_dict_len]
  subst hid
  dsimp only
  refine wpAny_bind (wpAny_isInstance (b := true) hT sub_dict0 ?_)
  simp only [Bool.not_true, Bool.false_eq_true, if_false]
  refine wpAny_bind (wpAny_typeOf hT (wpAny_pure h))
variable {κ : Type} [DecidableEq κ] {knd : PySem.KeyKind prog w κ}
set_option maxHeartbeats 1000000 in
theorem collect_dict {a : Addr} {kvs : List (κ × Value)} {ep : Nat} {Q : List Value → Shared → Prop} (hh : A.handled = none) (hs : (a == sysModules) = false) (D : s.heap.DictAt knd a kvs ep) (hz : kvs.length ≤ sizeLine)
    (hQ : ∀ (h' : Heap) (tk : Nat) (vs : List Value), vs.length = kvs.length → (∀ (i : Nat) (v : Value), vs[i]? = some v → ∃ k u, kvs[i]? = some (k, u) ∧ knd.is k v = true) → s.heap.objs.size < h'.objs.size → (∀ b o, s.heap.get? b = some o → h'.get? b = some o) → Q vs { s with heap := h', toks := tk }) :
    wpAny (model prog w) A (collect (.ref a)) Q E s := by
  have haS : a < s.heap.objs.size := D.lt_size
  unfold collect
  refine wpAny_bind (wpAny_runValue (codeAny_builtin PySem.F.entry_proto_collect ?_))
  rw [Around.under_plainId PySem.F.plain_proto_collect _]
  show wpAny _ A.in1 (newList [] >>= fun l => again (.builtin "list.__iadd__" ⟨[l, .ref a], []⟩)) _ _ s
  refine wpAny_bind (wpAny_newObj_type ?_)
  refine wpAny_pure ⟨plainId_quiet PySem.F.plain_list_iadd _, codeAny_builtin PySem.F.entry_list_iadd ?_⟩
  rw [Around.under_plainId PySem.F.plain_list_iadd _]
  generalize hh1 : s.heap.push { cls := .type "list", data := .seq ([] : List Value).toArray } = h1
  have hk1 : ∀ b o, s.heap.get? b = some o → h1.get? b = some o := fun b o e => by rw [← hh1]; exact Heap.get?_push_of_some _ e
  have hS1 : h1.get? s.heap.objs.size = some { cls := .type "list", data := .seq ([] : List Value).toArray } := by rw [← hh1]; exact Heap.get?_push_size _ rfl
  have hz1 : s.heap.objs.size < h1.objs.size := Heap.lt_size hS1
  have D1 : h1.DictAt knd a kvs ep := D.keep hk1
  show wpAny _ A.in1 (Builtin.List.listExtendWith (.ref s.heap.objs.size) (.ref a) (.ref s.heap.objs.size)) _ _ { s with heap := h1 }
  unfold Builtin.List.listExtendWith
  have hT1 : Shared.TypeIs { s with heap := h1 } (.ref a) "dict" := D1.dictOf.typeIs
  refine wpAny_bind (wpAny_typeOf hT1 ?_)
  have e1 : Builtin.List.listSameRef (.ref s.heap.objs.size) (.ref a) = false := by
    unfold Builtin.List.listSameRef
    exact beq_eq_false_iff_ne.mpr (Ne.symm (Nat.ne_of_lt haS))
  rw [if_neg (by rw [e1]; decide)]
  refine wpAny_bind (wpAny_pyIter_dict (s := { s with heap := h1 }) (knd := knd) hs D1 ?_)
  generalize hh2 : h1.push { cls := .type "dict_keyiterator", data := .fields #[.ref a, .int 0 0, .int kvs.length 0, .int ep 0] } = h2
  have hk2 : ∀ b o, h1.get? b = some o → h2.get? b = some o := fun b o e => by rw [← hh2]; exact Heap.get?_push_of_some _ e
  have hi : h2.IsKeyIter h1.objs.size a 0 kvs.length ep := by rw [← hh2]; exact ⟨_, Heap.get?_push_size _ rfl, rfl, rfl⟩
  have D2 : h2.DictAt knd a kvs ep := D1.keep hk2
  show wpAny _ A.in1 _ _ _ { s with heap := h2 }
  refine wpAny_bind (wpAny_holding (hint_dict (s := { s with heap := h2 }) D2.dictOf.typeIs ?_))
  rw [if_pos (by decide)]
  refine wpAny_bind (wpAny_rule ?_)
  have hS2 : h2.get? s.heap.objs.size = some { cls := .type "list", data := .seq ([] : List Value).toArray } := hk2 _ _ hS1
  refine wpAny_bind ?_
  show wpAny _ A.in1 (updateSeq s.heap.objs.size (·.push .none) >>= fun _ => updateSeq s.heap.objs.size (·.pop)) _ _ { s with heap := h2 }
  refine wpAny_bind (wpAny_updateSeq hS2 rfl ?_)
  have hS3 := Heap.get?_update_self (Obj.mapSeq (·.push Value.none)) hS2 rfl
  refine wpAny_updateSeq hS3 rfl ?_
  have hS4 := Heap.get?_update_self (Obj.mapSeq (·.pop)) hS3 rfl
  have oth : ∀ b o, b ≠ s.heap.objs.size → h2.get? b = some o → ((h2.update s.heap.objs.size (Obj.mapSeq (·.push Value.none))).update s.heap.objs.size (Obj.mapSeq (·.pop))).get? b = some o :=
    fun b o hb e => (Heap.get?_update_other _ _ (Ne.symm hb)).trans ((Heap.get?_update_other _ _ (Ne.symm hb)).trans e)
  have hIne : h1.objs.size ≠ s.heap.objs.size := Ne.symm (Nat.ne_of_lt hz1)
  have hane : a ≠ h1.objs.size := Nat.ne_of_lt (Nat.lt_trans haS hz1)
  have ext : Heap.ExtBut s.heap.objs.size h2 ((h2.update s.heap.objs.size (Obj.mapSeq (·.push Value.none))).update s.heap.objs.size (Obj.mapSeq (·.pop))) := fun b o hb e => oth b o hb e
  have W := (Walks.dictKeys (knd := knd) (A := A.in1) (by simpa using hh) h1.objs.size a hane kvs ep).toS
  refine wpAny_pure ⟨plainId_quiet PySem.F.plain_extend_loop _, codeAny_extend_loopS W hz s.heap.objs.size ?_ _ kvs.length 0 _ _ _ rfl (Nat.zero_le _)
    ⟨hi.extBut ext hIne, D2.extBut ext (Nat.ne_of_lt haS)⟩ hS4 (ItemsOf.nil _) fun s' acc' c' hm hS' hacc => ?_⟩
  · intro hmem
    rw [List.mem_cons, List.mem_singleton] at hmem
    rcases hmem with h | h
    · exact hIne h.symm
    · exact Nat.ne_of_lt haS h.symm
  · show wpAny _ A (load s.heap.objs.size >>= _) _ _ s'
    refine wpAny_bind (wpAny_load hS' ?_)
    obtain ⟨h', g', d', tk', os'⟩ := s'
    have eg : g' = s.gens := hm.gens
    have ed : d' = s.drawn := hm.drawn
    have eo : os' = s.os := hm.os
    subst eg; subst ed; subst eo
    refine wpAny_pure ?_
    refine hQ h' tk' acc'.toList (by rw [Array.length_toList]; exact hacc.1) (fun i v hv => ?_) (Heap.lt_size hS') fun b o e => ?_
    · exact hacc.2 i v (by rw [← Array.getElem?_toList]; exact hv)
    · have hb : b < s.heap.objs.size := Heap.lt_size e
      refine hm.heap b o ?_ (oth b o (Nat.ne_of_lt hb) (hk2 _ _ (hk1 _ _ e)))
      simp only [List.mem_cons, List.not_mem_nil, or_false, not_or]
      exact ⟨Nat.ne_of_lt hb, Nat.ne_of_lt (Nat.lt_trans hb hz1)⟩

theorem strs_of_keys : ∀ (fs : List Str) (vs : List Value), vs.length = fs.length → (∀ (i : Nat) (v : Value) (f : Str), vs[i]? = some v → fs[i]? = some f → (mixKind prog w).is (.inr f) v = true) → StrsAre vs fs
  | [], [], _, _ => .nil
  | [], _ :: _, h, _ => by simp at h
  | _ :: _, [], h, _ => by simp at h
  | f :: fs, v :: vs, h, q => by
    have h0 := q 0 v f rfl rfl
    rw [mixKind_is] at h0
    obtain ⟨t, rfl⟩ : ∃ t, v = .str f t := Value.isStrOf_shape h0
    exact .cons f t (strs_of_keys fs vs (by simpa using h) fun i v f' hv hf => q (i + 1) v f' (by simpa using hv) (by simpa using hf))
end
section
variable {X : Cx}
/-- sorted(d), d a dict of text keys, fewer than 64 -/
def rSortD : List V → Hp → VK → Prop := fun xs H Q => ∃ (a : Addr) (kvs : List (Key × V)) (fs : List Str), xs = [.ref a] ∧ H a = some (.dK kvs) ∧ kvs.map (·.1) = fs.map Sum.inr ∧ fs.length < 64 ∧
  ∀ (p : Addr) (ms : List Str), ms.Perm fs → ms.Nodup → sortedS ms = true → H p = none → Q (.ref p) (upd H p (.lst (ms.map V.str)))
theorem call_sortedD (hc : X.calm = true) : CallR X (.builtin "sorted") rSortD := by
  intro pins s σ H xs us Q I r h
  obtain ⟨a, kvs, fs, rfl, hH, hfs, h64, q⟩ := h
  obtain ⟨u, rfl, rx⟩ := vals1 r
  cases rx
  obtain ⟨hz, hS, vs, rk, m⟩ : kvs.length ≤ sizeLine ∧ (a == sysModules) = false ∧ ∃ vs, KV kvs vs ∧ s.heap.DictOf (mixKind X.prog X.w) a vs := I.hok a _ hH
  obtain ⟨ep, D⟩ := m.dictAt
  have hlen : kvs.length = vs.length := Paired.length rk
  have hfl : kvs.length = fs.length := by have := congrArg List.length hfs; simpa using this
  have keys : vs.map (·.1) = fs.map Sum.inr := by
    rw [← hfs]
    clear hfs D m hlen hfl hz hH
    unfold KV at rk
    induction rk with
    | nil => rfl
    | cons r t ih => rw [List.map_cons, List.map_cons, ih, r.1]
  have hnd : fs.Nodup := by
    have := D.nodup
    rw [keys] at this
    exact List.Pairwise.of_map _ (fun _ _ z e => z (by rw [e])) this
  refine Calls.call_function_entry kind_sorted plain_sorted entry_sorted (args_sorted1 _) ?_
  unfold Builtin.«sorted»
  refine wpAny_bind (m := checkCount "sorted" 1 1 _) (wpAny_pure ?_)
  refine wpAny_bind (collect_dict (knd := mixKind X.prog X.w) (by simpa using I.ok.hd hc) hS D (by omega) fun h1 tk1 ws hwl hws hsz hk => ?_)
  have hv : StrsAre ws fs := strs_of_keys (prog := X.prog) (w := X.w) fs ws (by omega) fun i v f h2 h3 => by
    obtain ⟨k, u, h4, h5⟩ := hws i v h2
    have : (vs.map (·.1))[i]? = some k := by rw [List.getElem?_map, h4]; rfl
    rw [keys, List.getElem?_map, h3] at this
    cases this
    exact h5
  refine wpAny_bind (wpAny_newList ?_ (by rw [sizeLine_eq]; omega))
  have hoL : (h1.push (seqObj "list" ws.toArray 0)).get? h1.objs.size = some (seqObj "list" ws.toArray 0) := Heap.get?_push_size _ rfl
  show wpAny _ _ (holding _ _ >>= _) _ _ { s with heap := h1.push (seqObj "list" ws.toArray 0), toks := tk1 }
  refine wpAny_bind (wpAny_holding (wpAny_call_entry slot_list_sort ⟨_, hoL, rfl⟩ entry_list_sort (list_sort_treeK strKind_oneLt hoL hv.keysOf (fun v₁ v₂ rest e => keyKind_strs (by rw [← e]; exact hv)) (by omega) fun st' a1 a2 => ⟨_, rfl, ?_⟩) (args_list_sort _)))
  obtain ⟨ms, m1, m2, m3⟩ := sorted_out_str hv a1 a2
  obtain ⟨e, he⟩ := sortedHeap_at (out := (arrOf st').map (·.2)) hoL
  refine wpAny_pure ⟨_, rfl, ?_⟩
  have hn1 : H h1.objs.size = none := I.hok.fresh (Nat.le_of_lt hsz)
  refine ⟨.ref h1.objs.size, upd H h1.objs.size (.lst (ms.map V.str)), I.laid (t' := tk1) (fun b o eb => ?_) (Nat.le_of_lt hsz) ?_, rfl, q _ ms m2 (m2.nodup_iff.mpr hnd) m3 hn1⟩
  · have hb : b < h1.objs.size := Heap.lt_size (hk b o eb)
    rw [sortedHeap_old (Nat.ne_of_lt hb) (by rw [size_push']; exact Nat.lt_succ_of_lt hb)]
    exact Heap.get?_push_of_some _ (hk b o eb)
  · have hml : ms.length = fs.length := m2.length_eq
    exact ⟨by rw [List.length_map, sizeLine_eq]; omega, ((arrOf st').map (·.2)).toList, e, vals_of_strs m1, by rw [Array.toArray_toList]; exact he⟩
end
end L2

set_option Elab.async false
set_option linter.all false
set_option maxRecDepth 100000
set_option exponentiation.threshold 2000
/-! dict(d), d a dict -/
namespace L2
open PySem PySem.Spec PyProof.Rows
section
variable {X : Cx}
def rDictD : List V → Hp → VK → Prop := fun xs H Q => ∃ (a : Addr) (kvs : List (Key × V)), xs = [.ref a] ∧ H a = some (.dK kvs) ∧ ∀ d, H d = none → Q (.ref d) (upd H d (.dK kvs))
theorem call_dictD (hc : X.calm = true) : CallR X (.type "dict") rDictD := by
  intro pins s σ H xs us Q I r h
  obtain ⟨a, kvs, rfl, ha, q⟩ := h
  obtain ⟨u, rfl, rx⟩ := vals1 r
  cases rx
  obtain ⟨hz, hS, vs, rk, m⟩ : kvs.length ≤ sizeLine ∧ (a == sysModules) = false ∧ ∃ vs, KV kvs vs ∧ s.heap.DictOf (mixKind X.prog X.w) a vs := I.hok a _ ha
  have hlen : kvs.length = vs.length := Paired.length rk
  have hh := I.ok.hd hc
  have alt : a < s.heap.objs.size := by obtain ⟨o, _, _, e, _⟩ := id m; exact Heap.lt_size e
  refine callType_codes (Q₁ := fun obj s₁ => obj = .ref s.heap.objs.size ∧ s₁ = { s with heap := s.heap.push { cls := .type "dict", data := .dict #[] } }) called_dict0 (tcall_dict1 _) PySem.F.entry_dict_init (code_dnew _ ⟨rfl, rfl⟩) fun obj s₁ h₁ => ?_
  obtain ⟨rfl, rfl⟩ := h₁
  have I1 := I.laid (a := s.heap.objs.size) (o := .dK []) (h' := s.heap.push { cls := .type "dict", data := .dict #[] }) (t' := s.toks) (fun _ _ q => Heap.get?_push_of_some _ q) (Nat.le_refl _) (dk_empty s.heap I.big)
  have hD : (s.heap.push { cls := .type "dict", data := .dict #[] }).get? s.heap.objs.size = some { cls := .type "dict", data := .dict #[] } := Heap.get?_push_size _ rfl
  refine ⟨⟨_, hD, rfl⟩, PySem.F.args_dict_init_2 _ _, ?_⟩
  have hT : Shared.TypeIs { s with heap := s.heap.push { cls := .type "dict", data := .dict #[] } } (.ref s.heap.objs.size) "dict" := ⟨_, hD, rfl⟩
  have m1 : (s.heap.push { cls := .type "dict", data := .dict #[] }).DictOf (mixKind X.prog X.w) a vs := m.push _
  unfold Builtin.«dict.__init__» Builtin.Dict.selfAndRest
  refine wpAny_bind (wpAny_bind (wpAny_notOrdered_dict hT (wpAny_pure ?_)))
  show wpAny _ _ (Builtin.Dict.updateFrom "dict.__init__" s.heap.objs.size (.ref a) [] .none) _ _ _
  unfold Builtin.Dict.updateFrom
  refine wpAny_bind (wpAny_typeOf (s := { s with heap := s.heap.push { cls := .type "dict", data := .dict #[] } }) m1.typeIs ?_)
  rw [if_neg (by decide)]
  obtain ⟨zd, hd, vs0, rk0, dd⟩ := dk_of I1.hok (show (upd H s.heap.objs.size (.dK [])) s.heap.objs.size = some (.dK []) from upd_same)
  cases rk0
  refine wpAny_bind ?_
  unfold Builtin.Dict.merge
  refine wpAny_bind ?_
  unfold Builtin.Dict.readDirectly
  refine wpAny_bind (wpAny_isInstance (s := { s with heap := s.heap.push { cls := .type "dict", data := .dict #[] } }) m1.typeIs isSubtype_dict_dict ?_)
  simp only [Bool.not_true, Bool.false_eq_true, if_false]
  refine wpAny_bind (wpAny_specialOf (s := { s with heap := s.heap.push { cls := .type "dict", data := .dict #[] } }) m1.typeIs PySem.F.slot_dict_iter.lookup (wpAny_pure ?_))
  simp only [beq_self_eq_true, if_true]
  refine wpAny_bind (wpAny_pure ?_)
  refine wpAny_mergeDict (s := { s with heap := s.heap.push { cls := .type "dict", data := .dict #[] } }) (knd := mixKind X.prog X.w) (hsz := by simp; omega) (Nat.ne_of_gt alt) hS dd m1 fun h' hd' ho' hs' => ?_
  show wpAny _ _ (Builtin.Dict.addKeywords s.heap.objs.size [] >>= _) _ _ _
  refine wpAny_bind (wpAny_pure (wpAny_pure ?_))
  have nd : (vs.map (·.1)).Nodup := by obtain ⟨ep, D⟩ := m.dictAt; exact D.nodup
  rw [merged_nil_of_nodup vs nd] at hd'
  have he : ∃ q, h'.get? s.heap.objs.size = some q := let ⟨q, _, _, hq, _⟩ := hd'; ⟨q, hq⟩
  have I3 := I1.write (x := s.heap.objs.size) (e := s.heap.objs.size) (o := .dK kvs) (h' := h') (t' := s.toks) (by rw [upd_same]; exact True.intro) (.inl rfl) (fun b u hb e => (hs'.2 b hb).trans e) he (dk_new hz hd rk hd')
  rw [upd_upd] at I3
  exact ⟨rfl, .ref s.heap.objs.size, _, I3, rfl, q _ (I.hok.fresh (Nat.le_refl _))⟩
end
end L2

set_option Elab.async false
set_option linter.all false
set_option maxRecDepth 100000
set_option exponentiation.threshold 2000
namespace L2
open PySem PySem.Spec PyProof.Rows

/-! ### spans -/
def endV : V → Bool
  | .non => true
  | .int _ => true
  | _ => false
def leV : V → V → Bool
  | .int i, .int j => decide (i ≤ j)
  | _, _ => true
def isSpanV (H : Hp) : V → Bool
  | .ref a => match H a with
    | some (.tup [x, y]) => endV x && endV y && leV x y
    | _ => false
  | _ => false
def SpanAt (H : Hp) (v : V) (lo hi : Option Int) : Prop := ∃ a, v = .ref a ∧ H a = some (.tup [eV lo, eV hi])
def leO : Option Int → Option Int → Bool
  | some i, some j => decide (i ≤ j)
  | _, _ => true
theorem isSpan_of {H : Hp} {v : V} {lo hi : Option Int} (h : SpanAt H v lo hi) : isSpanV H v = leO lo hi := by
  obtain ⟨a, rfl, e⟩ := h
  unfold isSpanV
  simp only [e]
  cases lo <;> cases hi <;> simp [eV, endV, leV, leO]
theorem SpanAt.same {H H' : Hp} {v : V} {lo hi : Option Int} (h : SpanAt H v lo hi) (s : Same H H') : SpanAt H' v lo hi := by
  obtain ⟨a, e, q⟩ := h
  exact ⟨a, e, s _ _ q⟩
theorem SpanAt.sameB {H H' : Hp} {v : V} {lo hi : Option Int} {b g l : Addr} {n : Int} (h : SpanAt H v lo hi) (B : Bag H b g l n) (s : SameB b g H H') : SpanAt H' v lo hi := by
  obtain ⟨a, e, q⟩ := h
  exact ⟨a, e, s.tup B q⟩
theorem ty_eV {K : PySem.W.Frag} {H : Hp} (o : Option Int) : ∃ t, TyOf K H (eV o) (.type t) := by
  cases o with
  | none => exact ⟨_, .non⟩
  | some i => exact ⟨_, .int i⟩
def spWhole (K : PySem.W.Frag) : Sp := fun vs H Q _ => ∃ (v : V) (t : String), vs = [v] ∧ TyOf K H v (.type t) ∧ Q (.bl (t == "int")) H
def spEnd (K : PySem.W.Frag) : Sp := fun vs H Q _ => ∃ (v : V) (t : String), vs = [v] ∧ TyOf K H v (.type t) ∧ Q (.bl (endV v)) H
def PairTy (K : PySem.W.Frag) (H : Hp) (v : V) : Prop := ∀ a x y, v = .ref a → H a = some (.tup [x, y]) → ∃ t1 t2, TyOf K H x (.type t1) ∧ TyOf K H y (.type t2)
def spIsSpan (K : PySem.W.Frag) : Sp := fun vs H Q _ => ∃ (v : V) (t : String), vs = [v] ∧ TyOf K H v (.type t) ∧ PairTy K H v ∧ Q (.bl (isSpanV H v)) H
def spCheck (K : PySem.W.Frag) : Sp := fun vs H Q _ => ∃ (v : V) (t : String), vs = [v] ∧ TyOf K H v (.type t) ∧ PairTy K H v ∧ isSpanV H v = true ∧ Q .non H
theorem SpanAt.ty {K : PySem.W.Frag} {H : Hp} {v : V} {lo hi : Option Int} (h : SpanAt H v lo hi) : TyOf K H v (.type "tuple") ∧ PairTy K H v := by
  obtain ⟨a, rfl, q⟩ := h
  refine ⟨.tup q, fun a' x y e q' => ?_⟩
  cases e
  rw [q] at q'
  injection q' with q'
  injection q' with q'
  injection q' with e1 e2
  injection e2 with e2 _
  subst e1 e2
  obtain ⟨t1, h1⟩ := ty_eV (K := K) (H := H) lo
  obtain ⟨t2, h2⟩ := ty_eV (K := K) (H := H) hi
  exact ⟨t1, t2, h1, h2⟩
/-! ### what covers, what both share -/
def downB : Option Int → Option Int → Bool
  | none, _ => true
  | some _, none => false
  | some l, some o => decide (l ≤ o)
def upB : Option Int → Option Int → Bool
  | none, _ => true
  | some _, none => false
  | some h, some o => decide (o ≤ h)
def reachB (lo hi lo2 hi2 : Option Int) : Bool := downB lo lo2 && upB hi hi2
def mLo : Option Int → Option Int → Option Int
  | none, o => o
  | some l, none => some l
  | some l, some o => some (if l < o then o else l)
def mHi : Option Int → Option Int → Option Int
  | none, o => o
  | some h, none => some h
  | some h, some o => some (if o < h then o else h)
def apart : Option Int → Option Int → Bool
  | some l, some h => decide (h < l)
  | _, _ => false
def MetAt (H : Hp) (v : V) (lo hi : Option Int) : Prop := if apart lo hi = true then v = .non else SpanAt H v lo hi
def loB : Option Int → Int → Bool
  | none, _ => true
  | some l, k => decide (l ≤ k)
def hiB : Option Int → Int → Bool
  | none, _ => true
  | some h, k => decide (k ≤ h)
def inB (lo hi : Option Int) (k : Int) : Bool := loB lo k && hiB hi k
def spReach : Sp := fun vs H Q _ => ∃ (v w : V) (lo hi lo2 hi2 : Option Int), vs = [v, w] ∧ SpanAt H v lo hi ∧ SpanAt H w lo2 hi2 ∧ Q (.bl (reachB lo hi lo2 hi2)) H
def spCovers : Sp := fun vs H Q _ => ∃ (v w : V) (lo hi lo2 hi2 : Option Int), vs = [v, w] ∧ SpanAt H v lo hi ∧ SpanAt H w lo2 hi2 ∧ leO lo hi = true ∧ leO lo2 hi2 = true ∧ Q (.bl (reachB lo hi lo2 hi2)) H
def spShared : Sp := fun vs H Q _ => ∃ (v w : V) (lo hi lo2 hi2 : Option Int), vs = [v, w] ∧ SpanAt H v lo hi ∧ SpanAt H w lo2 hi2 ∧ ∀ v' H', Same H H' → MetAt H' v' (mLo lo lo2) (mHi hi hi2) → Q v' H'
def spMet : Sp := fun vs H Q _ => ∃ (v w : V) (lo hi lo2 hi2 : Option Int), vs = [v, w] ∧ SpanAt H v lo hi ∧ SpanAt H w lo2 hi2 ∧ leO lo hi = true ∧ leO lo2 hi2 = true ∧ ∀ v' H', Same H H' → MetAt H' v' (mLo lo lo2) (mHi hi hi2) → Q v' H'
def spIn : Sp := fun vs H Q _ => ∃ (v : V) (lo hi : Option Int) (k : Int), vs = [v, .int k] ∧ SpanAt H v lo hi ∧ Q (.bl (inB lo hi k)) H
theorem ends_max (o1 o2 : Option Int) : ∃ ns : List Int, ([o1, o2].filter Option.isSome).map eV = ns.map V.int ∧ bestD (fun i j => decide (j < i)) ns .non = eV (mLo o1 o2) := by
  cases o1 with
  | none =>
    cases o2 with
    | none => exact ⟨[], rfl, rfl⟩
    | some b => exact ⟨[b], rfl, rfl⟩
  | some a =>
    cases o2 with
    | none => exact ⟨[a], rfl, rfl⟩
    | some b =>
      refine ⟨[a, b], rfl, ?_⟩
      show V.int (if decide (a < b) = true then b else a) = V.int (if a < b then b else a)
      by_cases h : a < b
      · rw [if_pos (decide_eq_true h), if_pos h]
      · rw [if_neg (by rw [decide_eq_false h]; exact Bool.false_ne_true), if_neg h]
theorem ends_min (o1 o2 : Option Int) : ∃ ns : List Int, ([o1, o2].filter Option.isSome).map eV = ns.map V.int ∧ bestD (fun i j => decide (i < j)) ns .non = eV (mHi o1 o2) := by
  cases o1 with
  | none =>
    cases o2 with
    | none => exact ⟨[], rfl, rfl⟩
    | some b => exact ⟨[b], rfl, rfl⟩
  | some a =>
    cases o2 with
    | none => exact ⟨[a], rfl, rfl⟩
    | some b =>
      refine ⟨[a, b], rfl, ?_⟩
      show V.int (if decide (b < a) = true then b else a) = V.int (if b < a then b else a)
      by_cases h : b < a
      · rw [if_pos (decide_eq_true h), if_pos h]
      · rw [if_neg (by rw [decide_eq_false h]; exact Bool.false_ne_true), if_neg h]
/-- the numbers that are drawn -/
abbrev T15 : Int := 1000000000000000
def heldF (i : Int) : Int := if (if i < 10 ^ (15 : Int).toNat - 1 then i else 10 ^ (15 : Int).toNat - 1) > 1 - 10 ^ (15 : Int).toNat then (if i < 10 ^ (15 : Int).toNat - 1 then i else 10 ^ (15 : Int).toNat - 1) else 1 - 10 ^ (15 : Int).toNat
theorem e15 : (10 : Int) ^ (15 : Int).toNat = T15 := by decide
theorem heldF_eq (i : Int) : (heldF i = i ∧ -T15 < i ∧ i < T15) ∨ (heldF i = T15 - 1 ∧ T15 ≤ i + 1) ∨ (heldF i = 1 - T15 ∧ i ≤ 1 - T15) := by
  unfold heldF
  rw [e15]
  unfold T15
  split <;> split <;> omega
def inT (o : Option Int) : Prop := ∀ i, o = some i → -T15 < i ∧ i < T15
structure Good (lo hi : Option Int) : Prop where
  le : leO lo hi = true
  lo : inT lo
  hi : inT hi
def spHeld : Sp := fun vs H Q _ => ∃ i : Int, vs = [.int i] ∧ Q (.int (heldF i)) H
def spNumber : Sp := fun vs H Q _ => ∃ (b g l : Addr) (n : Int), vs = [.ref b] ∧ Bag H b g l n ∧ n ≤ 10 ^ 9 ∧ ∀ (r : Int) (H' : Hp), -T15 < r → r < T15 → Bag H' b g l (n + 3) → SameB b g H H' → Q (.int r) H'
def spSpan : Sp := fun vs H Q _ => ∃ (b g l : Addr) (n : Int), vs = [.ref b] ∧ Bag H b g l n ∧ n ≤ 10 ^ 8 ∧ ∀ (v : V) (lo hi : Option Int) (H' : Hp), SpanAt H' v lo hi → Good lo hi → Bag H' b g l (n + 8) → SameB b g H H' → Q v H'
def spMoved : Sp := fun vs H Q _ => ∃ (b g l : Addr) (n : Int) (w : V) (lo0 hi0 : Option Int), vs = [.ref b, w] ∧ Bag H b g l n ∧ SpanAt H w lo0 hi0 ∧ n ≤ 10 ^ 8 ∧ ∀ (v : V) (lo hi : Option Int) (H' : Hp), SpanAt H' v lo hi → Good lo hi → Bag H' b g l (n + 8) → SameB b g H H' → Q v H'
def spTwo : Sp := fun vs H Q _ => ∃ (b g l : Addr) (n : Int), vs = [.ref b] ∧ Bag H b g l n ∧ n ≤ 10 ^ 7 ∧ ∀ (r : Addr) (v w : V) (lo hi lo2 hi2 : Option Int) (H' : Hp), H' r = some (.tup [v, w]) → SpanAt H' v lo hi → SpanAt H' w lo2 hi2 → leO lo hi = true → leO lo2 hi2 = true → Bag H' b g l (n + 20) → SameB b g H H' → Q (.ref r) H'
theorem pw10 {j : Int} (h0 : 0 ≤ j) (h1 : j ≤ 1000) : CPowB 10 j := ⟨h0, h1, by decide⟩
/-! ### the points -/
def near : Option Int → List Int
  | none => []
  | some e => [e - 1, e, e + 1]
def pts0 : List Int := [0, 10 ^ (17 : Int).toNat, 0 - 10 ^ (17 : Int).toNat]
def ptsOf (ss : List (Option Int × Option Int)) : List Int := pts0 ++ ss.flatMap fun s => near s.1 ++ near s.2
theorem near_len (o : Option Int) : (near o).length ≤ 3 := by cases o <;> simp [near]
theorem pts_len : ∀ ss : List (Option Int × Option Int), (ptsOf ss).length ≤ 3 + 6 * ss.length := by
  intro ss
  have : (ss.flatMap fun s => near s.1 ++ near s.2).length ≤ 6 * ss.length := by
    induction ss with
    | nil => simp
    | cons s r ih =>
      rw [List.flatMap_cons, List.length_append, List.length_append, List.length_cons]
      have h1 := near_len s.1
      have h2 := near_len s.2
      omega
  unfold ptsOf
  rw [List.length_append]
  simp only [pts0, List.length_cons, List.length_nil]
  omega
def spPoints (K : PySem.W.Frag) : Sp := fun vs H Q _ => ∃ (a : Addr) (ss : List (Addr × Option Int × Option Int)), vs = [.ref a] ∧ SqL K H a (ss.map fun s => V.ref s.1) ∧ (∀ s ∈ ss, H s.1 = some (.tup [eV s.2.1, eV s.2.2])) ∧ ss.length ≤ 8 ∧
  ∀ r H', Same H H' → H' r = some (.lst ((ptsOf (ss.map (·.2))).map V.int)) → Q (.ref r) H'
/-! ### the mathematics -/
theorem met_in (lo hi lo2 hi2 : Option Int) (k : Int) : inB (mLo lo lo2) (mHi hi hi2) k = (inB lo hi k && inB lo2 hi2 k) := by
  cases lo <;> cases hi <;> cases lo2 <;> cases hi2 <;> simp only [inB, loB, hiB, mLo, mHi, Bool.true_and, Bool.and_true] <;> rw [Bool.eq_iff_iff] <;> simp <;> (try split) <;> (try split) <;> omega
theorem apart_in {lo hi : Option Int} (h : apart lo hi = true) (k : Int) : inB lo hi k = false := by
  cases lo with
  | none => cases h
  | some l =>
    cases hi with
    | none => cases h
    | some j =>
      have h : decide (j < l) = true := h
      have h := of_decide_eq_true h
      simp only [inB, loB, hiB]
      by_cases h1 : l ≤ k
      · rw [decide_eq_true h1, decide_eq_false (by omega)]; rfl
      · rw [decide_eq_false h1]; rfl
theorem near_mem {e : Int} {o : Option Int} (h : o = some e) : e - 1 ∈ near o ∧ e ∈ near o ∧ e + 1 ∈ near o := by
  subst h
  simp [near]
theorem pts_mem {k : Int} {a b c d : Option Int} (h : k ∈ near a ∨ k ∈ near b ∨ k ∈ near c ∨ k ∈ near d ∨ k = 0) : k ∈ ptsOf [(a, b), (c, d)] := by
  simp only [ptsOf, List.flatMap_cons, List.flatMap_nil, List.append_nil, List.mem_append, pts0, List.mem_cons]
  rcases h with h | h | h | h | h
  · exact .inr (.inl (.inl h))
  · exact .inr (.inl (.inr h))
  · exact .inr (.inr (.inl h))
  · exact .inr (.inr (.inr h))
  · exact .inl (.inl h)
theorem reach_all {lo hi lo2 hi2 : Option Int} (h : reachB lo hi lo2 hi2 = true) (k : Int) : (inB lo2 hi2 k && !inB lo hi k) = false := by
  cases lo <;> cases hi <;> cases lo2 <;> cases hi2 <;> simp [reachB, downB, upB, inB, loB, hiB] at h ⊢ <;> omega
theorem reach_not {lo hi lo2 hi2 : Option Int} (hl : leO lo hi = true) (hl2 : leO lo2 hi2 = true) (h : reachB lo hi lo2 hi2 = false) : ∃ k ∈ ptsOf [(lo, hi), (lo2, hi2)], (inB lo2 hi2 k && !inB lo hi k) = true := by
  have go : ∀ k, (k ∈ near lo ∨ k ∈ near hi ∨ k ∈ near lo2 ∨ k ∈ near hi2 ∨ k = 0) → (inB lo2 hi2 k && !inB lo hi k) = true → ∃ k ∈ ptsOf [(lo, hi), (lo2, hi2)], (inB lo2 hi2 k && !inB lo hi k) = true := fun k h1 h2 => ⟨k, pts_mem h1, h2⟩
  cases ed : downB lo lo2 with
  | false =>
    cases lo with
    | none => cases ed
    | some l =>
      cases lo2 with
      | some o =>
        have ed : decide (l ≤ o) = false := ed
        have ed := of_decide_eq_false ed
        refine go o (.inr (.inr (.inl (near_mem rfl).2.1))) ?_
        cases hi2 <;> cases hi <;> simp [inB, loB, hiB, leO] at hl2 ⊢ <;> omega
      | none =>
        cases hi2 with
        | none => exact go (l - 1) (.inl (near_mem rfl).1) (by cases hi <;> simp [inB, loB, hiB] <;> omega)
        | some y =>
          by_cases hy : l - 1 ≤ y
          · exact go (l - 1) (.inl (near_mem rfl).1) (by cases hi <;> simp [inB, loB, hiB] <;> omega)
          · exact go y (.inr (.inr (.inr (.inl (near_mem rfl).2.1)))) (by cases hi <;> simp [inB, loB, hiB] <;> omega)
  | true =>
    rw [reachB, ed] at h
    have h : upB hi hi2 = false := h
    cases hi with
    | none => cases h
    | some u =>
      cases hi2 with
      | some o =>
        have h : decide (o ≤ u) = false := h
        have h := of_decide_eq_false h
        refine go o (.inr (.inr (.inr (.inl (near_mem rfl).2.1)))) ?_
        cases lo2 <;> cases lo <;> simp [inB, loB, hiB, leO] at hl2 ⊢ <;> omega
      | none =>
        cases lo2 with
        | none => exact go (u + 1) (.inr (.inl (near_mem rfl).2.2)) (by cases lo <;> simp [inB, loB, hiB] <;> omega)
        | some y =>
          by_cases hy : y ≤ u + 1
          · exact go (u + 1) (.inr (.inl (near_mem rfl).2.2)) (by cases lo <;> simp [inB, loB, hiB] <;> omega)
          · exact go y (.inr (.inr (.inl (near_mem rfl).2.1))) (by cases lo <;> simp [inB, loB, hiB] <;> omega)
def spMetRight : Sp := fun vs H Q _ => ∃ (m v w : V) (lo hi lo2 hi2 : Option Int), vs = [m, v, w] ∧ MetAt H m (mLo lo lo2) (mHi hi hi2) ∧ SpanAt H v lo hi ∧ SpanAt H w lo2 hi2 ∧ leO lo hi = true ∧ leO lo2 hi2 = true ∧ ∀ H', Same H H' → Q (.bl true) H'
def spCovRight : Sp := fun vs H Q _ => ∃ (v w : V) (lo hi lo2 hi2 : Option Int), vs = [v, w] ∧ SpanAt H v lo hi ∧ SpanAt H w lo2 hi2 ∧ leO lo hi = true ∧ leO lo2 hi2 = true ∧ ∀ H', Same H H' → Q (.bl true) H'
/-! ### what is compared -/
def dE : Option Int → PD
  | none => .non
  | some i => .int i
def dM (lo hi : Option Int) : PD := if apart lo hi = true then .non else .tup [dE lo, dE hi]
theorem rep_eV {K : PySem.W.Frag} {H : Hp} (o : Option Int) : Rep K H (dE o) (eV o) := by
  cases o with
  | none => show Rep K H .non .non; rw [Rep]
  | some i => show Rep K H (.int i) (.int i); rw [Rep]
theorem MetAt.same {H H' : Hp} {v : V} {lo hi : Option Int} (h : MetAt H v lo hi) (s : Same H H') : MetAt H' v lo hi := by
  unfold MetAt at h ⊢
  cases e : apart lo hi with
  | true => rw [e, if_pos rfl] at h; rw [if_pos rfl]; exact h
  | false => rw [e, if_neg Bool.false_ne_true] at h; rw [if_neg Bool.false_ne_true]; exact h.same s
/-! ### fields, wishes, pieces -/
def letterOk (c : Nat) : Bool := decide (97 ≤ c) && decide (c ≤ 122)
structure FieldOk (x : Str) : Prop where
  one : 1 ≤ x.length
  eight : x.length ≤ 8
  all : ∀ c ∈ x.cps.toList, letterOk c = true
theorem cps_a : ("a" : Str).cps.toList = [97] := by decide +kernel
theorem cps_z : ("z" : Str).cps.toList = [122] := by decide +kernel
theorem ge_a {c : Nat} (h : letterOk c = true) : (!decide ((⟨#[c]⟩ : Str).cps.toList < ("a" : Str).cps.toList)) = true := by
  rw [cps_a]
  have h1 : 97 ≤ c := of_decide_eq_true ((Bool.and_eq_true _ _).mp h).1
  have : ¬ ([c] : List Nat) < [97] := by
    intro z
    cases z with
    | rel z => exact absurd z (by omega)
    | cons z => cases z
  show (!decide (([c] : List Nat) < [97])) = true
  rw [decide_eq_false this]
  rfl
theorem le_z {c : Nat} (h : letterOk c = true) : (!decide (("z" : Str).cps.toList < (⟨#[c]⟩ : Str).cps.toList)) = true := by
  rw [cps_z]
  have h1 : c ≤ 122 := of_decide_eq_true ((Bool.and_eq_true _ _).mp h).2
  have : ¬ ([122] : List Nat) < [c] := by
    intro z
    cases z with
    | rel z => exact absurd z (by omega)
    | cons z => cases z
  show (!decide (([122] : List Nat) < [c])) = true
  rw [decide_eq_false this]
  rfl
def spField : Sp := fun vs H Q _ => ∃ x : Str, vs = [.str x] ∧ FieldOk x ∧ ∀ H', Same H H' → Q (.bl true) H'
def PartW (H : Hp) (p : Addr) (f : Str) (lo hi : Option Int) : Prop := H p = some (.tup [.str f, eV lo, eV hi])
def PartP (H : Hp) (p : Addr) (f : Str) (n : Int) : Prop := H p = some (.tup [.str f, .int n])
def spWishPart : Sp := fun vs H Q _ => ∃ (p : Addr) (f : Str) (lo hi : Option Int), vs = [.ref p] ∧ PartW H p f lo hi ∧ FieldOk f ∧ leO lo hi = true ∧ ∀ H', Same H H' → Q (.bl true) H'
def spPiecePart : Sp := fun vs H Q _ => ∃ (p : Addr) (f : Str) (n : Int), vs = [.ref p] ∧ PartP H p f n ∧ FieldOk f ∧ ∀ H', Same H H' → Q (.bl true) H'
def ltF (f g : Str) : Prop := f.cps.toList < g.cps.toList
/-- parts of a wish or a piece: the fields ahead, ascending -/
def spAscend : Sp := fun vs H Q _ => ∃ (a : Addr) (ps : List (Addr × Str × List V)), vs = [.ref a] ∧ H a = some (.tup (ps.map fun p => V.ref p.1)) ∧ ps.length ≤ 100 ∧ (∀ p ∈ ps, H p.1 = some (.tup (V.str p.2.1 :: p.2.2))) ∧
  (∀ (i : Nat) p q, ps[i]? = some p → ps[i + 1]? = some q → ltF p.2.1 q.2.1) ∧ ∀ H', Same H H' → Q (.bl true) H'
/-! ### wishes -/
abbrev WP := Str × Option Int × Option Int
def WishAt (H : Hp) (a : Addr) (w : List WP) : Prop := ∃ ps : List (Addr × WP), ps.map (·.2) = w ∧ H a = some (.tup (ps.map fun p => V.ref p.1)) ∧ ∀ p ∈ ps, H p.1 = some (.tup [.str p.2.1, eV p.2.2.1, eV p.2.2.2])
theorem WishAt.keep {H H' : Hp} {a : Addr} {w : List WP} (h : WishAt H a w) (s : Tups H H') : WishAt H' a w := by
  obtain ⟨ps, e, h1, h2⟩ := h
  exact ⟨ps, e, s _ _ h1, fun p hp => s _ _ (h2 p hp)⟩
theorem WishAt.same {H H' : Hp} {a : Addr} {w : List WP} (h : WishAt H a w) (s : Same H H') : WishAt H' a w := h.keep s.tups
structure WOk (w : List WP) : Prop where
  len : w.length ≤ 100
  ok : ∀ p ∈ w, FieldOk p.1 ∧ leO p.2.1 p.2.2 = true
  asc : (w.map (·.1)).Pairwise ltF
def spanOf (w : List WP) (f : Str) : Option (Option Int × Option Int) := (w.find? (fun p => decide (p.1 = f))).map (·.2)
theorem spanOf_none {w : List WP} {f : Str} (h : ∀ p ∈ w, p.1 ≠ f) : spanOf w f = none := by
  unfold spanOf
  rw [List.find?_eq_none.mpr fun p hp z => h p hp (of_decide_eq_true z)]
  rfl
theorem spanOf_snoc (w : List WP) (p : WP) (f : Str) (hn : spanOf w p.1 = none) : spanOf (w ++ [p]) f = if f = p.1 then some p.2 else spanOf w f := by
  unfold spanOf at *
  rw [List.find?_append]
  by_cases h : f = p.1
  · subst h
    rw [if_pos rfl]
    cases e : w.find? (fun q => decide (q.1 = p.1)) with
    | some q => rw [e] at hn; cases hn
    | none => simp
  · rw [if_neg h]
    cases e : w.find? (fun q => decide (q.1 = f)) with
    | some q => rfl
    | none => simp; exact fun z => h z.symm
theorem ltF_ne {f g : Str} (h : ltF f g) : f ≠ g := fun e => by
  subst e
  exact List.lt_irrefl _ h
theorem WOk.fresh {w : List WP} (h : WOk w) {i : Nat} {p : WP} (hp : w[i]? = some p) : spanOf (w.take i) p.1 = none := by
  refine spanOf_none fun q hq e => ?_
  obtain ⟨j, hj⟩ := List.getElem?_of_mem hq
  rw [List.getElem?_take] at hj
  split at hj
  · rename_i lt
    have hi : i < w.length := (List.getElem?_eq_some_iff.mp hp).1
    have := List.pairwise_iff_getElem.mp h.asc j i (by rw [List.length_map]; omega) (by rw [List.length_map]; exact hi) lt
    rw [List.getElem_map, List.getElem_map] at this
    have e1 : w[j]'(by omega) = q := (List.getElem?_eq_some_iff.mp hj).2
    have e2 : w[i] = p := (List.getElem?_eq_some_iff.mp hp).2
    rw [e1, e2] at this
    exact ltF_ne this e
  · cases hj
/-- a dict of the spans of a wish, by its fields -/
def DictSp (H : Hp) (d : Addr) (w : List WP) : Prop := ∃ kvs : List (Key × V), H d = some (.dK kvs) ∧ kvs.length ≤ w.length ∧ ∀ f : Str, match spanOf w f with
  | none => valV kvs (.inr f) = none
  | some s => ∃ t, valV kvs (.inr f) = some (.ref t) ∧ H t = some (.tup [eV s.1, eV s.2])
theorem DictSp.same {H H' : Hp} {d : Addr} {w : List WP} (h : DictSp H d w) (s : Same H H') : DictSp H' d w := by
  obtain ⟨kvs, e, l, q⟩ := h
  refine ⟨kvs, s _ _ e, l, fun f => ?_⟩
  have := q f
  cases hs : spanOf w f with
  | none => rw [hs] at this; exact this
  | some sp => rw [hs] at this; obtain ⟨t, h1, h2⟩ := this; exact ⟨t, h1, s _ _ h2⟩
def reachP (other : List WP) (p : WP) : Bool := match spanOf other p.1 with
  | none => false
  | some s => reachB p.2.1 p.2.2 s.1 s.2
theorem reachP_none {other : List WP} {p : WP} (h : spanOf other p.1 = none) : reachP other p = false := by unfold reachP; rw [h]
theorem reachP_some {other : List WP} {p : WP} {s : Option Int × Option Int} (h : spanOf other p.1 = some s) : reachP other p = reachB p.2.1 p.2.2 s.1 s.2 := by unfold reachP; rw [h]
def reachW (one other : List WP) : Bool := one.all (reachP other)
def spIsWish : Sp := fun vs H Q _ => ∃ (a : Addr) (w : List WP), vs = [.ref a] ∧ WishAt H a w ∧ WOk w ∧ ∀ H', Same H H' → Q (.bl true) H'
def spChkWish : Sp := fun vs H Q _ => ∃ (a : Addr) (w : List WP), vs = [.ref a] ∧ WishAt H a w ∧ WOk w ∧ ∀ H', Same H H' → Q .non H'
def spSpansBy : Sp := fun vs H Q _ => ∃ (a : Addr) (w : List WP), vs = [.ref a] ∧ WishAt H a w ∧ WOk w ∧ ∀ d H', Same H H' → H d = none → DictSp H' d w → Q (.ref d) H'
def spReachSp : Sp := fun vs H Q _ => ∃ (a d : Addr) (w w' : List WP), vs = [.ref a, .ref d] ∧ WishAt H a w ∧ DictSp H d w' ∧ ∀ H', Same H H' → Q (.bl (reachW w w')) H'
def spWishReach : Sp := fun vs H Q _ => ∃ (a b : Addr) (w w' : List WP), vs = [.ref a, .ref b] ∧ WishAt H a w ∧ WishAt H b w' ∧ WOk w' ∧ ∀ H', Same H H' → Q (.bl (reachW w w')) H'
/-! ### a number of a span, a number apart -/
def numOf : Option Int → Option Int → Int
  | some l, _ => l
  | none, some h => h
  | none, none => 0
def apBelow (lo hi lo2 : Option Int) : Option Int := match lo2 with
  | none => none
  | some l => if apart lo (mHi hi (some (l - 1))) = true then none else some (numOf lo (mHi hi (some (l - 1))))
def apAbove (lo hi hi2 : Option Int) : Option Int := match hi2 with
  | none => none
  | some h => if apart (mLo lo (some (h + 1))) hi = true then none else some (numOf (mLo lo (some (h + 1))) hi)
def numApart (lo hi lo2 hi2 : Option Int) : Option Int := match apBelow lo hi lo2 with
  | some n => some n
  | none => apAbove lo hi hi2
theorem apA_T {lo hi : Option Int} {h : Int} (ap : apart (mLo lo (some (h + 1))) hi = true) : apAbove lo hi (some h) = none := if_pos ap
theorem apA_F {lo hi : Option Int} {h : Int} (ap : ¬ apart (mLo lo (some (h + 1))) hi = true) : apAbove lo hi (some h) = some (numOf (mLo lo (some (h + 1))) hi) := if_neg ap
theorem apB_T {lo hi : Option Int} {l : Int} (ap : apart lo (mHi hi (some (l - 1))) = true) : apBelow lo hi (some l) = none := if_pos ap
theorem apB_F {lo hi : Option Int} {l : Int} (ap : ¬ apart lo (mHi hi (some (l - 1))) = true) : apBelow lo hi (some l) = some (numOf lo (mHi hi (some (l - 1)))) := if_neg ap
theorem na_none {lo hi lo2 hi2 : Option Int} (h : apBelow lo hi lo2 = none) : numApart lo hi lo2 hi2 = apAbove lo hi hi2 := by unfold numApart; rw [h]
theorem na_some {lo hi lo2 hi2 : Option Int} {n : Int} (h : apBelow lo hi lo2 = some n) : numApart lo hi lo2 hi2 = some n := by unfold numApart; rw [h]
theorem mLo_none (o : Option Int) : mLo o none = o := by cases o <;> rfl
theorem mHi_none (o : Option Int) : mHi o none = o := by cases o <;> rfl
def spNumOf : Sp := fun vs H Q _ => ∃ (v : V) (lo hi : Option Int), vs = [v] ∧ SpanAt H v lo hi ∧ Q (.int (numOf lo hi)) H
def spApart : Sp := fun vs H Q _ => ∃ (v w : V) (lo hi lo2 hi2 : Option Int), vs = [v, w] ∧ SpanAt H v lo hi ∧ SpanAt H w lo2 hi2 ∧ ∀ H', Same H H' → Q (eV (numApart lo hi lo2 hi2)) H'
def spHow : Sp := fun vs H Q _ => ∃ (v : V) (lo hi : Option Int), vs = [v] ∧ SpanAt H v lo hi ∧ leO lo hi = true ∧ Q (match lo, hi with | some l, some h => .int (h - l + 1) | _, _ => .non) H
def spChkNum : Sp := fun vs H Q _ => ∃ i : Int, vs = [.int i] ∧ Q .non H
def spIsIn : Sp := fun vs H Q _ => ∃ (v : V) (lo hi : Option Int) (k : Int), vs = [v, .int k] ∧ SpanAt H v lo hi ∧ leO lo hi = true ∧ Q (.bl (inB lo hi k)) H
/-! ### pieces -/
abbrev PP := Str × Int
def PieceAt (H : Hp) (a : Addr) (w : List PP) : Prop := ∃ ps : List (Addr × PP), ps.map (·.2) = w ∧ H a = some (.tup (ps.map fun p => V.ref p.1)) ∧ ∀ p ∈ ps, H p.1 = some (.tup [.str p.2.1, .int p.2.2])
def numFor (other : List WP) (p : WP) : Int := match numApart p.2.1 p.2.2 ((spanOf other p.1).getD (none, none)).1 ((spanOf other p.1).getD (none, none)).2 with
  | some n => n
  | none => numOf p.2.1 p.2.2
theorem numFor_some {other : List WP} {p : WP} {sp : Option Int × Option Int} {n : Int} (h : (spanOf other p.1).getD (none, none) = sp) (e : numApart p.2.1 p.2.2 sp.1 sp.2 = some n) : numFor other p = n := by unfold numFor; rw [h, e]
theorem numFor_none {other : List WP} {p : WP} {sp : Option Int × Option Int} (h : (spanOf other p.1).getD (none, none) = sp) (e : numApart p.2.1 p.2.2 sp.1 sp.2 = none) : numFor other p = numOf p.2.1 p.2.2 := by unfold numFor; rw [h, e]
def partP (one other : List WP) : List PP := one.map fun p => (p.1, numFor other p)
def spParting : Sp := fun vs H Q _ => ∃ (a b : Addr) (w w' : List WP), vs = [.ref a, .ref b] ∧ WishAt H a w ∧ WishAt H b w' ∧ WOk w ∧ WOk w' ∧ (reachW w' w = true → ∀ H', Same H H' → Q .non H') ∧
  (reachW w' w = false → ∀ r H', Same H H' → PieceAt H' r (partP w w') → Q (.ref r) H')
/-- a dict comprehension over a tuple, by its invariant -/
theorem dc_tup {K : PySem.W.Frag} {a p : Addr} {xs : List V} {g : TG} {tc : TT} {tk tv : TE} {σ : St} {H : Hp} {Q : VK} {js : Cap} (Pv : Nat → St → List (Key × V) → Hp → Prop) (h0 : Pv 0 (inn js σ) [] (upd H p (.dK [])))
    (hl : ∀ i σ kvs H, i ≤ xs.length → Pv i σ kvs H → SqT K H a xs ∧ H p = some (.dK kvs) ∧ kvs.length < sizeLine)
    (hs : ∀ (i : Nat) x σ kvs H (N : St → List (Key × V) → Hp → Prop), xs[i]? = some x → Pv i σ kvs H → (∀ σ' kvs' H', Pv (i + 1) σ' kvs' H' → N σ' kvs' H') → g x σ H fun σ2 H2 => tc σ2 H2 fun b H3 =>
      if b = true then tk σ2 H3 fun k H4 => tv σ2 H4 fun y H5 => ∃ ky, k = kV ky ∧ H5 p = some (.dK kvs) ∧ N σ2 (putK kvs ky y) (upd H5 p (.dK (putK kvs ky y))) else N σ2 kvs H3)
    (hd : ∀ σ kvs H, Pv xs.length σ kvs H → Q (.ref p) H) : DcGoal (Itt K a) p js g tc tk tv σ H Q := by
  refine ⟨fun i m σ kvs H => m = xs.length - i ∧ i ≤ xs.length ∧ Pv i σ kvs H, ⟨xs.length, by simp, Nat.zero_le _, h0⟩, ?_⟩
  rintro i m σ kvs H ⟨rfl, hi, pv⟩
  obtain ⟨q0, q1, q2⟩ := hl i σ kvs H hi pv
  refine ⟨q1, ?_⟩
  by_cases lt : i < xs.length
  · refine .inr ⟨⟨xs, xs[i], q0, by simp [lt]⟩, q2, fun x H' y => ?_⟩
    obtain ⟨e, y⟩ := y
    subst e
    exact hs i x σ kvs H' (fun σ2 kvs2 H2 => ∃ m', m' < xs.length - i ∧ m' = xs.length - (i + 1) ∧ i + 1 ≤ xs.length ∧ Pv (i + 1) σ2 kvs2 H2) (y xs q0) pv fun σ' ys' H' p' => ⟨xs.length - (i + 1), by omega, rfl, lt, p'⟩
  · have e : i = xs.length := by omega
    subst e
    exact .inl ⟨⟨xs, q0, Nat.le_refl _⟩, hd σ kvs H pv⟩
end L2

set_option Elab.async false
set_option linter.all false
set_option maxRecDepth 100000
set_option exponentiation.threshold 2000
namespace L2
open PySem PySem.Spec PyProof.Rows
/-! ### texts in order -/
theorem str_ext {x y : Str} (h : x.cps.toList = y.cps.toList) : x = y := by
  obtain ⟨a⟩ := x
  obtain ⟨b⟩ := y
  congr
  exact Array.toList_inj.mp h
theorem ltF_tri {x y : Str} (h : ¬ ltF x y) (n : x ≠ y) : ltF y x := by
  unfold ltF at *
  rcases Std.lt_trichotomy (α := List Nat) x.cps.toList y.cps.toList with h1 | h1 | h1
  · exact absurd h1 h
  · exact absurd (str_ext h1) n
  · exact h1
theorem ltF_trans {x y z : Str} (h : ltF x y) (h2 : ltF y z) : ltF x z := List.lt_trans h h2
theorem rising_lt : ∀ (r : List Str) (p : Str), risingS p r = true → (p :: r).Nodup → (p :: r).Pairwise ltF
  | [], p, _, _ => List.pairwise_singleton _ _
  | x :: r, p, h, n => by
    unfold risingS at h
    rw [Bool.and_eq_true, Bool.not_eq_true', ltCps_eq, decide_eq_false_iff_not] at h
    rw [List.nodup_cons] at n
    have px : ltF p x := ltF_tri (x := x) (y := p) h.1 (fun e => n.1 (by rw [← e]; exact List.mem_cons_self))
    have ih := rising_lt r x h.2 n.2
    rw [List.pairwise_cons]
    refine ⟨fun y hy => ?_, ih⟩
    rcases List.mem_cons.mp hy with rfl | hy
    · exact px
    · exact ltF_trans px ((List.pairwise_cons.mp ih).1 y hy)
theorem sorted_lt {ms : List Str} (h : sortedS ms = true) (n : ms.Nodup) : ms.Pairwise ltF := by
  cases ms with
  | nil => exact .nil
  | cons x r => exact rising_lt r x h n
/-! ### pieces -/
theorem PieceAt.keep {H H' : Hp} {a : Addr} {w : List PP} (h : PieceAt H a w) (s : Tups H H') : PieceAt H' a w := by
  obtain ⟨ps, e, h1, h2⟩ := h
  exact ⟨ps, e, s _ _ h1, fun p hp => s _ _ (h2 p hp)⟩
theorem PieceAt.same {H H' : Hp} {a : Addr} {w : List PP} (h : PieceAt H a w) (s : Same H H') : PieceAt H' a w := h.keep s.tups
structure POk (p : List PP) : Prop where
  len : p.length ≤ 100
  ok : ∀ x ∈ p, FieldOk x.1
  asc : (p.map (·.1)).Pairwise ltF
def numIn (p : List PP) (f : Str) : Option Int := (p.find? (fun x => decide (x.1 = f))).map (·.2)
theorem numIn_none {w : List PP} {f : Str} (h : ∀ p ∈ w, p.1 ≠ f) : numIn w f = none := by
  unfold numIn
  rw [List.find?_eq_none.mpr fun p hp z => h p hp (of_decide_eq_true z)]
  rfl
theorem numIn_snoc (w : List PP) (p : PP) (f : Str) (hn : numIn w p.1 = none) : numIn (w ++ [p]) f = if f = p.1 then some p.2 else numIn w f := by
  unfold numIn at *
  rw [List.find?_append]
  by_cases h : f = p.1
  · subst h
    rw [if_pos rfl]
    cases e : w.find? (fun q => decide (q.1 = p.1)) with
    | some q => rw [e] at hn; cases hn
    | none => simp
  · rw [if_neg h]
    cases e : w.find? (fun q => decide (q.1 = f)) with
    | some q => rfl
    | none => simp; exact fun z => h z.symm
theorem POk.fresh {w : List PP} (h : POk w) {i : Nat} {p : PP} (hp : w[i]? = some p) : numIn (w.take i) p.1 = none := by
  refine numIn_none fun q hq e => ?_
  obtain ⟨j, hj⟩ := List.getElem?_of_mem hq
  rw [List.getElem?_take] at hj
  split at hj
  · rename_i lt
    have hi : i < w.length := (List.getElem?_eq_some_iff.mp hp).1
    have := List.pairwise_iff_getElem.mp h.asc j i (by rw [List.length_map]; omega) (by rw [List.length_map]; exact hi) lt
    rw [List.getElem_map, List.getElem_map] at this
    have e1 : w[j]'(by omega) = q := (List.getElem?_eq_some_iff.mp hj).2
    have e2 : w[i] = p := (List.getElem?_eq_some_iff.mp hp).2
    rw [e1, e2] at this
    exact ltF_ne this e
  · cases hj
/-- what a wish's part says of a piece -/
def takesP (p : List PP) (x : WP) : Bool := match numIn p x.1 with
  | none => false
  | some n => inB x.2.1 x.2.2 n
theorem takesP_none {p : List PP} {x : WP} (h : numIn p x.1 = none) : takesP p x = false := by unfold takesP; rw [h]
theorem takesP_some {p : List PP} {x : WP} {n : Int} (h : numIn p x.1 = some n) : takesP p x = inB x.2.1 x.2.2 n := by unfold takesP; rw [h]
def takesW (w : List WP) (p : List PP) : Bool := w.all (takesP p)
theorem takesW_out {w : List WP} {p : List PP} {x : WP} (hx : x ∈ w) (h : takesP p x = false) : takesW w p = false := by
  unfold takesW
  rw [List.all_eq_false]
  exact ⟨x, hx, by rw [h]; exact Bool.false_ne_true⟩
def spIsPiece : Sp := fun vs H Q _ => ∃ (a : Addr) (w : List PP), vs = [.ref a] ∧ PieceAt H a w ∧ POk w ∧ ∀ H', Same H H' → Q (.bl true) H'
def spChkPiece : Sp := fun vs H Q _ => ∃ (a : Addr) (w : List PP), vs = [.ref a] ∧ PieceAt H a w ∧ POk w ∧ ∀ H', Same H H' → Q .non H'
def spTakes : Sp := fun vs H Q _ => ∃ (a b : Addr) (w : List WP) (p : List PP), vs = [.ref a, .ref b] ∧ WishAt H a w ∧ PieceAt H b p ∧ POk p ∧ ∀ H', Same H H' → Q (.bl (takesW w p)) H'
def spWants : Sp := fun vs H Q _ => ∃ (a b : Addr) (w : List WP) (p : List PP), vs = [.ref a, .ref b] ∧ WishAt H a w ∧ PieceAt H b p ∧ WOk w ∧ POk p ∧ ∀ H', Same H H' → Q (.bl (takesW w p)) H'
/-! ### drawn fields -/
def spLawField : Sp := fun vs H Q _ => ∃ (b g l : Addr) (n : Int), vs = [.ref b] ∧ Bag H b g l n ∧ n ≤ 10 ^ 8 ∧ ∀ (x : Str) (H' : Hp), FieldOk x → Bag H' b g l (n + 12) → SameB b g H H' → Q (.str x) H'
def spLawFields : Sp := fun vs H Q _ => ∃ (b g l : Addr) (n most : Int), vs = [.ref b, .int most] ∧ Bag H b g l n ∧ n ≤ 10 ^ 7 ∧ 0 ≤ most ∧ most ≤ 9 ∧
  ∀ (r : Addr) (fs : List Str) (H' : Hp), H r = none → H' r = some (.lst (fs.map V.str)) → fs.Pairwise ltF → (∀ f ∈ fs, FieldOk f) → (fs.length : Int) ≤ most → Bag H' b g l (n + 200) → SameB b g H H' → Q (.ref r) H'
def spLawNear : Sp := fun vs H Q _ => ∃ (b g l : Addr) (n : Int) (v : V) (lo hi : Option Int), vs = [.ref b, v] ∧ Bag H b g l n ∧ SpanAt H v lo hi ∧ n ≤ 10 ^ 8 ∧ ∀ (r : Int) (H' : Hp), Bag H' b g l (n + 8) → SameB b g H H' → Q (.int r) H'
theorem az : ("abcdefghijklmnopqrstuvwxyz" : Str).cps.toList = (List.range 26).map (· + 97) := by decide +kernel
theorem az_at {r : Int} (h0 : 0 ≤ r) (h1 : r < 26) : ∃ c, atI ("abcdefghijklmnopqrstuvwxyz" : Str).cps.toList r = some c ∧ letterOk c = true := by
  rw [az]
  obtain ⟨k, rfl⟩ : ∃ k : Nat, r = k := ⟨r.toNat, by omega⟩
  have hk : k < 26 := by omega
  refine ⟨k + 97, ?_, ?_⟩
  · refine atI_nat ?_
    rw [List.getElem?_map, List.getElem?_range hk]
    rfl
  · unfold letterOk
    rw [Bool.and_eq_true]
    exact ⟨decide_eq_true (by omega), decide_eq_true (by omega)⟩
/-- a text joined of signs -/
theorem join_signs : ∀ (cs : List Nat), (Txt.join ("" : Str) (cs.map fun c => (⟨#[c]⟩ : Str))).cps.toList = cs
  | [] => rfl
  | [c] => rfl
  | c :: d :: r => by
    have ih := join_signs (d :: r)
    have e : ∀ (ts : List Str), Txt.join ("" : Str) ts = Str.join ("" : Str) ts := fun ts => StrLaws.glued_eq_join _ _
    rw [e] at ih ⊢
    show ((⟨#[c]⟩ : Str) ++ ("" : Str) ++ Str.join ("" : Str) ((d :: r).map fun c => (⟨#[c]⟩ : Str))).cps.toList = _
    have : ((⟨#[c]⟩ : Str) ++ ("" : Str) ++ Str.join ("" : Str) ((d :: r).map fun c => (⟨#[c]⟩ : Str))).cps.toList = c :: (Str.join ("" : Str) ((d :: r).map fun c => (⟨#[c]⟩ : Str))).cps.toList := by
      show (#[c] ++ #[] ++ _ : Array Nat).toList = _
      simp
    rw [this, ih]
theorem join_ok (cs : List Nat) (h : cs.length ≤ 1000) : JoinOk ("" : Str) (cs.map fun c => (⟨#[c]⟩ : Str)) = true := by
  unfold JoinOk
  rw [Bool.not_eq_true']
  refine StrLaws.joinFits (B := 1) (fun y hy => ?_) ?_
  · obtain ⟨c, _, rfl⟩ := List.mem_map.mp hy
    exact Nat.le_refl 1
  · rw [List.length_map]
    show cs.length * 1 + cs.length * 0 ≤ _
    omega
theorem join_field {cs : List Nat} (h1 : 1 ≤ cs.length) (h8 : cs.length ≤ 8) (ok : ∀ c ∈ cs, letterOk c = true) : FieldOk (Txt.join ("" : Str) (cs.map fun c => (⟨#[c]⟩ : Str))) := by
  have e := join_signs cs
  have hl : (Txt.join ("" : Str) (cs.map fun c => (⟨#[c]⟩ : Str))).length = cs.length := by
    show Array.size _ = _
    rw [← Array.length_toList, e]
  exact ⟨by rw [hl]; exact h1, by rw [hl]; exact h8, by rw [e]; exact ok⟩
theorem SameB.off {b g p : Addr} {H H' : Hp} {o : HO} (s : SameB b g H H') (hp : H p = none) : SameB b g H (upd H' p o) := fun a x h n1 n2 => by
  have : a ≠ p := fun e => by rw [e, hp] at h; cases h
  rw [upd_ne this]
  exact s a x h n1 n2
theorem Bag.off {b g l p : Addr} {n : Int} {H : Hp} {o : HO} (B : Bag H b g l n) (pb : p ≠ b) (pg : p ≠ g) (pl : p ≠ l) : Bag (upd H p o) b g l n := by
  obtain ⟨gs, ls, c, st, e1, e2, e3, r⟩ := B.ex
  exact ⟨⟨gs, ls, c, st, by rw [upd_ne pb.symm]; exact e1, by rw [upd_ne pg.symm]; exact e2, by rw [upd_ne pl.symm]; exact e3, r⟩, B.gl⟩
theorem SameB.none {b g p : Addr} {H H' : Hp} (s : SameB b g H H') (hp : H' p = none) (pb : p ≠ b) (pg : p ≠ g) : H p = none := by
  cases e : H p with
  | none => rfl
  | some o => rw [s p o e pb pg] at hp; cases hp
end L2

set_option Elab.async false
set_option linter.all false
set_option maxRecDepth 100000
set_option exponentiation.threshold 2000
namespace L2
open PySem PySem.Spec PyProof.Rows
def spCoversW : Sp := fun vs H Q _ => ∃ (a b : Addr) (w w' : List WP), vs = [.ref a, .ref b] ∧ WishAt H a w ∧ WishAt H b w' ∧ WOk w ∧ WOk w' ∧ ∀ H', Same H H' → Q (.bl (reachW w w')) H'
/-- a wish as the laws draw one -/
structure WDrawn (w : List WP) : Prop where
  len : w.length ≤ 9
  ok : ∀ p ∈ w, FieldOk p.1 ∧ Good p.2.1 p.2.2
  asc : (w.map (·.1)).Pairwise ltF
theorem WDrawn.wok {w : List WP} (h : WDrawn w) : WOk w := ⟨by have := h.len; omega, fun p hp => ⟨(h.ok p hp).1, (h.ok p hp).2.le⟩, h.asc⟩
/-- a list of fields of its own, beside the bag -/
structure FieldsAt (H : Hp) (b g : Addr) (a : Addr) (fs : List Str) : Prop where
  at' : H a = some (.lst (fs.map V.str))
  nb : a ≠ b
  ng : a ≠ g
  len : fs.length ≤ 9
  ok : ∀ f ∈ fs, FieldOk f
  asc : fs.Pairwise ltF
theorem FieldsAt.sameB {H H' : Hp} {b g a : Addr} {fs : List Str} (h : FieldsAt H b g a fs) (s : SameB b g H H') : FieldsAt H' b g a fs := ⟨s _ _ h.at' h.nb h.ng, h.nb, h.ng, h.len, h.ok, h.asc⟩
def spLawWish : Sp := fun vs H Q _ => ∃ (b g l fl : Addr) (n : Int) (fs : List Str), vs = [.ref b, .ref fl] ∧ Bag H b g l n ∧ n ≤ 10 ^ 7 ∧ FieldsAt H b g fl fs ∧
  ∀ (r : Addr) (w : List WP) (H' : Hp), WishAt H' r w → WDrawn w → Bag H' b g l (n + 100) → SameB b g H H' → Q (.ref r) H'
theorem WishAt.sameB {H H' : Hp} {b g l : Addr} {n : Int} {a : Addr} {w : List WP} (h : WishAt H a w) (B : Bag H b g l n) (s : SameB b g H H') : WishAt H' a w := h.keep fun _ _ e => s.tup B e
theorem PieceAt.sameB {H H' : Hp} {b g l : Addr} {n : Int} {a : Addr} {w : List PP} (h : PieceAt H a w) (B : Bag H b g l n) (s : SameB b g H H') : PieceAt H' a w := h.keep fun _ _ e => s.tup B e

theorem depth_dE (o : Option Int) : depthD (dE o) = 0 := by cases o <;> rfl
theorem neOne {K : PySem.W.Frag} {H : Hp} {a p t : Addr} {lo hi : Option Int} {Q : VK} (h : SqL K H a [.ref t]) (ht : SqT K H t [eV lo, eV hi]) (hp : SqL K H p []) (q : Q (.bl true) H) : rNeD K (.ref a) (.ref p) H Q := by
  refine ⟨.lst [.tup [dE lo, dE hi]], .lst [], ?_, by rw [Rep]; exact ⟨p, _, rfl, hp, by rw [Reps]⟩, ?_, ?_⟩
  · rw [Rep]
    refine ⟨a, _, rfl, h, ?_⟩
    rw [Reps]
    refine ⟨_, _, rfl, ?_, by rw [Reps]⟩
    rw [Rep]
    refine ⟨t, _, rfl, ht, ?_⟩
    rw [Reps]
    refine ⟨_, _, rfl, rep_eV lo, ?_⟩
    rw [Reps]
    exact ⟨_, _, rfl, rep_eV hi, by rw [Reps]⟩
  · rw [depthD, depthDs, depthD, depthDs, depthDs, depthDs, depthDs, depth_dE, depth_dE]
    decide
  · rw [pyEq, pyEqs_len (by simp)]
    exact q
/-- the span of a field, any where there is none -/
def spanOr (w : List WP) (f : Str) : Option Int × Option Int := (spanOf w f).getD (none, none)
def spSpanOf : Sp := fun vs H Q _ => ∃ (a : Addr) (w : List WP) (f : Str), vs = [.ref a, .str f] ∧ WishAt H a w ∧ WOk w ∧ ∀ (v : V) (H' : Hp), Same H H' → SpanAt H' v (spanOr w f).1 (spanOr w f).2 → Q v H'

theorem az_in {c : Nat} (h : letterOk c = true) : (Builtin.Str.occurrences ("abcdefghijklmnopqrstuvwxyz" : Str) (⟨#[c]⟩ : Str) 0 ("abcdefghijklmnopqrstuvwxyz" : Str).length 1).isEmpty = false := by
  have h1 : 97 ≤ c := of_decide_eq_true ((Bool.and_eq_true _ _).mp h).1
  have h2 : c ≤ 122 := of_decide_eq_true ((Bool.and_eq_true _ _).mp h).2
  have all : ∀ k : Fin 26, (Builtin.Str.occurrences ("abcdefghijklmnopqrstuvwxyz" : Str) (⟨#[k.val + 97]⟩ : Str) 0 ("abcdefghijklmnopqrstuvwxyz" : Str).length 1).isEmpty = false := by decide +kernel
  have := all ⟨c - 97, by omega⟩
  rw [show (⟨c - 97, by omega⟩ : Fin 26).val + 97 = c from by show c - 97 + 97 = c; omega] at this
  exact this
def spLawIsField : Sp := fun vs H Q _ => ∃ x : Str, vs = [.str x] ∧ FieldOk x ∧ ∀ H', Same H H' → Q (.bl true) H'
/-- what the law's own look says of a piece that is one -/
def spLawMade2 : Sp := fun vs H Q _ => ∃ (a : Addr) (p : List PP), vs = [.ref a, .int 2] ∧ PieceAt H a p ∧ POk p ∧ ∀ H', Same H H' → Q (.bl true) H'
def spLawIsSpan : Sp := fun vs H Q _ => ∃ lo hi : Option Int, vs = [eV lo, eV hi] ∧ leO lo hi = true ∧ ∀ H', Same H H' → Q (.bl true) H'
/-- a dict made of a piece's pairs -/
def prsOf (ps : List (Addr × PP)) : List (Addr × Key × V) := ps.map fun p => (p.1, (Sum.inr p.2.1 : Key), V.int p.2.2)
theorem fold_piece (ps : List (Addr × PP)) (pok : POk (ps.map (·.2))) (f : Str) : ∀ (n : Nat), n ≤ ps.length → valV ((prsOf (ps.take n)).foldl (fun acc p => putK acc p.2.1 p.2.2) []) (.inr f : Key) = (numIn ((ps.map (·.2)).take n) f).map V.int := by
  intro n
  induction n with
  | zero => intro _; rfl
  | succ n ih =>
    intro hn
    have e1 : ps[n]? = some ps[n] := by simp
    have ew : (ps.map (·.2))[n]? = some ps[n].2 := by rw [List.getElem?_map, e1]; rfl
    have fr := pok.fresh ew
    rw [take_snoc e1, take_snoc ew, numIn_snoc _ _ _ fr]
    unfold prsOf at ih ⊢
    rw [List.map_append, List.foldl_append]
    show valV (putK _ (Sum.inr ps[n].2.1 : Key) (V.int ps[n].2.2)) (.inr f) = _
    rw [valV_put]
    by_cases hf : f = ps[n].2.1
    · rw [if_pos hf, if_pos (by rw [hf])]
      rfl
    · rw [if_neg hf, if_neg (fun z => hf (by injection z))]
      exact ih (by omega)
theorem fold_piece' (ps : List (Addr × PP)) (pok : POk (ps.map (·.2))) (f : Str) : valV ((prsOf ps).foldl (fun acc p => putK acc p.2.1 p.2.2) []) (.inr f : Key) = (numIn (ps.map (·.2)) f).map V.int := by
  have := fold_piece ps pok f ps.length (Nat.le_refl _)
  rw [List.take_length, List.take_of_length_le (by simp)] at this
  exact this
/-- of a def that no turn of the law calls -/
def spNever : Sp := fun _ _ _ _ => False

/-! ### the pieces that the law asks -/
def rowOf (w' : List WP) (p : WP) : List Int := (ptsOf [(p.2.1, p.2.2), spanOr w' p.1]).filter (inB p.2.1 p.2.2)
def firstOf (w' : List WP) (p : WP) : Int := (rowOf w' p).headD 0
def basePc (w w' : List WP) : List PP := w.map fun p => (p.1, firstOf w' p)
def setPc (b : List PP) (f : Str) (k : Int) : List PP := b.map fun x => if x.1 = f then (x.1, k) else x
def piecesOf (w w' : List WP) : List (List PP) := basePc w w' :: w.flatMap fun p => (rowOf w' p).map (setPc (basePc w w') p.1)
def PiecesAt (H : Hp) (r : Addr) (ps : List (List PP)) : Prop := ∃ qs : List (Addr × List PP), qs.map (·.2) = ps ∧ H r = some (.lst (qs.map fun q => V.ref q.1)) ∧ ∀ q ∈ qs, PieceAt H q.1 q.2
def spPieces : Sp := fun vs H Q _ => ∃ (a b : Addr) (w w' : List WP), vs = [.ref a, .ref b] ∧ WishAt H a w ∧ WishAt H b w' ∧ WDrawn w ∧ WDrawn w' ∧ ∀ r H', Same H H' → PiecesAt H' r (piecesOf w w') → Q (.ref r) H'
def spBeside6 : Sp := fun vs H Q _ => ∃ (b g l a fl : Addr) (n : Int) (w : List WP) (fs : List Str), vs = [.ref b, .ref a, .ref fl] ∧ Bag H b g l n ∧ n ≤ 10 ^ 7 ∧ WishAt H a w ∧ WDrawn w ∧ FieldsAt H b g fl fs ∧
  ∀ (r : Addr) (w' : List WP) (H' : Hp), WishAt H' r w' → WDrawn w' → Bag H' b g l (n + 300) → SameB b g H H' → Q (.ref r) H'

theorem spanOf_mem {w : List WP} {f : Str} {s : Option Int × Option Int} (h : spanOf w f = some s) : ∃ p ∈ w, p.1 = f ∧ p.2 = s := by
  unfold spanOf at h
  cases e : w.find? (fun p => decide (p.1 = f)) with
  | none => rw [e] at h; cases h
  | some p =>
    rw [e] at h
    have h2 : decide (p.1 = f) = true := List.find?_some (p := fun (p : WP) => decide (p.1 = f)) e
    exact ⟨p, List.mem_of_find?_eq_some e, of_decide_eq_true h2, Option.some.inj h⟩
theorem DictSp.sameB {H H' : Hp} {d b g l : Addr} {n : Int} {w : List WP} (h : DictSp H d w) (B : Bag H b g l n) (db : d ≠ b) (dg : d ≠ g) (s : SameB b g H H') : DictSp H' d w := by
  obtain ⟨kvs, e, l', q⟩ := h
  refine ⟨kvs, s _ _ e db dg, l', fun f => ?_⟩
  have := q f
  cases hs : spanOf w f with
  | none => rw [hs] at this; exact this
  | some sp => rw [hs] at this; obtain ⟨t, h1, h2⟩ := this; exact ⟨t, h1, s.tup B h2⟩
theorem DictSp.off {H : Hp} {d r : Addr} {w : List WP} {xs ys : List V} (h : DictSp H d w) (e : H r = some (.lst xs)) : DictSp (upd H r (.lst ys)) d w := by
  obtain ⟨kvs, k1, l', q⟩ := h
  have dr : d ≠ r := fun z => by rw [z, e] at k1; cases k1
  refine ⟨kvs, by rw [upd_ne dr]; exact k1, l', fun f => ?_⟩
  have := q f
  cases hs : spanOf w f with
  | none => rw [hs] at this; exact this
  | some sp =>
    rw [hs] at this
    obtain ⟨t, h1, h2⟩ := this
    exact ⟨t, h1, by rw [upd_ne (fun z => by rw [z, e] at h2; cases h2)]; exact h2⟩

theorem lc_intsS {K : PySem.W.Frag} {H : Hp} {a p : Addr} {Q : VK} {js : Cap} {σ cap : St} {tc : TT} {te : TE} (ns : List Int) (c : Int → Bool) (hn : ns.length ≤ 900) (e : SqL K H a (ns.map V.int)) (hp : H p = none) (hσ : inn js σ = none :: cap)
    (ht : ∀ n H' (R : Bool → Hp → Prop), Same H H' → (∀ H'', Same H' H'' → R (c n) H'') → tc (some (.int n) :: cap) H' R) (he : ∀ n H' (R : VK), Same H H' → R (.int n) H' → te (some (.int n) :: cap) H' R)
    (hq : ∀ H', Same H H' → H' p = some (.lst ((ns.filter c).map V.int)) → Q (.ref p) H') : LcGoal (Itl K a) p js (gName 0) tc te σ H Q := by
  have s0 := same_new hp (.lst [])
  refine lc_list (xs := ns.map V.int) (fun i σ' ys H' => (∃ v, σ' = v :: cap) ∧ Same H H' ∧ H' p = some (.lst ys) ∧ ys = (((ns.take i).filter c).map V.int)) ⟨⟨_, hσ⟩, s0, upd_same, rfl⟩ ?_ ?_ ?_
  · rintro i σ' ys H' hi ⟨_, s, h1, h2⟩
    refine ⟨s.seq e, h1, ?_⟩
    rw [h2]
    simp only [List.length_map]
    have := List.length_filter_le c (ns.take i)
    rw [List.length_take] at this
    exact small1000 (by omega)
  · rintro i x σ' ys H' N hx ⟨⟨v, rfl⟩, s, h1, h2⟩ hN
    rw [List.getElem?_map] at hx
    cases e1 : ns[i]? with
    | none => rw [e1] at hx; cases hx
    | some m =>
      rw [e1] at hx
      obtain rfl : V.int m = x := Option.some.inj hx
      refine ht m H' _ s fun H2 s2 => ?_
      cases hc : c m with
      | true =>
        refine iteT (he m H2 _ (s.trans s2) ⟨s2 _ _ h1, hN _ _ _ ⟨⟨_, rfl⟩, upd_off (s.trans s2) hp, upd_same, ?_⟩⟩)
        rw [h2, take_snoc e1, List.filter_append, List.map_append, List.filter_cons, hc]
        rfl
      | false =>
        refine iteF (hN _ _ _ ⟨⟨_, rfl⟩, s.trans s2, s2 _ _ h1, ?_⟩)
        rw [h2, take_snoc e1, List.filter_append, List.filter_cons, hc]
        simp
  · rintro σ' ys H' ⟨_, s, h1, h2⟩
    refine hq H' s ?_
    rw [h1, h2, List.take_of_length_le (by simp)]
/-- the dict of a piece's numbers -/
def kvP (p : List PP) : List (Key × V) := p.map fun x => ((Sum.inr x.1 : Key), V.int x.2)
theorem valV_kvP (f : Str) : ∀ p : List PP, valV (kvP p) (.inr f : Key) = (numIn p f).map V.int
  | [] => rfl
  | x :: r => by
    by_cases h : x.1 = f
    · subst h
      rw [show kvP (x :: r) = ((Sum.inr x.1 : Key), V.int x.2) :: kvP r from rfl, valV_pos rfl]
      simp [numIn]
    · rw [show kvP (x :: r) = ((Sum.inr x.1 : Key), V.int x.2) :: kvP r from rfl, valV_neg (fun z => h (by injection z)), valV_kvP f r]
      simp [numIn, List.find?_cons, h]
theorem putK_set (p : List PP) (f : Str) (k : Int) (hf : f ∈ p.map (·.1)) : putK (kvP p) (.inr f : Key) (V.int k) = kvP (setPc p f k) := by
  unfold putK
  have : ((kvP p).any fun kv => decide (kv.1 = (Sum.inr f : Key))) = true := by
    rw [List.any_eq_true]
    obtain ⟨x, hx, rfl⟩ := List.mem_map.mp hf
    exact ⟨(Sum.inr x.1, V.int x.2), List.mem_map.mpr ⟨x, hx, rfl⟩, by simp⟩
  rw [if_pos this]
  unfold kvP setPc
  rw [List.map_map, List.map_map]
  apply List.map_congr_left
  intro x hx
  by_cases h : x.1 = f
  · simp [h]
  · simp [h]
theorem kvP_keys (p : List PP) : (kvP p).map (·.1) = (p.map (·.1)).map Sum.inr := by
  unfold kvP
  rw [List.map_map, List.map_map]
  rfl
theorem setPc_keys (p : List PP) (f : Str) (k : Int) : (setPc p f k).map (·.1) = p.map (·.1) := by
  unfold setPc
  rw [List.map_map]
  apply List.map_congr_left
  intro x _
  by_cases h : x.1 = f
  · simp [h]
  · simp [h]
theorem same_sort {ms fs : List Str} (p : ms.Perm fs) (n : ms.Nodup) (s : sortedS ms = true) (a : fs.Pairwise ltF) : ms = fs :=
  List.Perm.eq_of_pairwise (le := ltF) (fun x y _ _ h1 h2 => absurd (ltF_trans h1 h2) (fun z => ltF_ne z rfl)) (sorted_lt s n) a p
theorem numIn_self {p : List PP} (h : (p.map (·.1)).Pairwise ltF) {x : PP} (hx : x ∈ p) : numIn p x.1 = some x.2 := by
  induction p with
  | nil => simp at hx
  | cons y r ih =>
    rw [List.map_cons, List.pairwise_cons] at h
    rcases List.mem_cons.mp hx with rfl | hx
    · simp [numIn]
    · have : ltF y.1 x.1 := h.1 _ (List.mem_map_of_mem hx)
      have ne := ltF_ne this
      have := ih h.2 hx
      simp [numIn, List.find?_cons, ne] at this ⊢
      exact this
theorem row_ne {w' : List WP} {p : WP} (h : leO p.2.1 p.2.2 = true) : rowOf w' p ≠ [] := by
  obtain ⟨f, lo, hi⟩ := p
  have key : ∃ k, k ∈ ptsOf [(lo, hi), spanOr w' f] ∧ inB lo hi k = true := by
    cases lo with
    | some l =>
      refine ⟨l, ?_, ?_⟩
      · unfold ptsOf
        simp [near]
      · cases hi with
        | none => simp [inB, loB, hiB]
        | some u =>
          have : l ≤ u := of_decide_eq_true h
          simp [inB, loB, hiB, this]
    | none =>
      cases hi with
      | some u =>
        refine ⟨u, ?_, by simp [inB, loB, hiB]⟩
        unfold ptsOf
        simp [near]
      | none =>
        refine ⟨0, ?_, by simp [inB, loB, hiB]⟩
        unfold ptsOf
        simp [pts0]
  obtain ⟨k, k1, k2⟩ := key
  exact List.ne_nil_of_mem (List.mem_filter.mpr ⟨k1, k2⟩)
theorem spanOf_no {w : List WP} {f : Str} (h : spanOf w f = none) : ∀ p ∈ w, p.1 ≠ f := fun p hp e => by
  unfold spanOf at h
  rw [Option.map_eq_none_iff, List.find?_eq_none] at h
  exact h p hp (decide_eq_true e)
/-- [(name, d[name]) for name in ..]: the pairs of a piece -/
theorem lc_piece {K : PySem.W.Frag} {H : Hp} {z p : Addr} {Q : VK} {js : Cap} {σ cap : St} {te : TE} (base : List PP) (hb : base.length ≤ 100) (e : SqL K H z ((base.map (·.1)).map V.str)) (hp : H p = none) (hσ : inn js σ = none :: cap)
    (he : ∀ x ∈ base, ∀ H' (R : VK), Same H H' → (∀ t, H' t = none → R (.ref t) (upd H' t (.tup [.str x.1, .int x.2]))) → te (some (.str x.1) :: cap) H' R)
    (hq : ∀ H' (qs : List (Addr × PP)), Same H H' → qs.map (·.2) = base → H' p = some (.lst (qs.map fun q => V.ref q.1)) → (∀ q ∈ qs, H' q.1 = some (.tup [.str q.2.1, .int q.2.2])) → Q (.ref p) H') : LcGoal (Itl K z) p js (gName 0) tYes te σ H Q := by
  have s0 := same_new hp (.lst [])
  refine lc_list (xs := (base.map (·.1)).map V.str) (fun i σ' ys H' => (∃ v, σ' = v :: cap) ∧ Same H H' ∧ H' p = some (.lst ys) ∧ ∃ qs : List (Addr × PP), ys = qs.map (fun q => V.ref q.1) ∧ qs.map (·.2) = base.take i ∧ ∀ q ∈ qs, H' q.1 = some (.tup [.str q.2.1, .int q.2.2])) ⟨⟨_, hσ⟩, s0, upd_same, [], rfl, rfl, fun q hq => by simp at hq⟩ ?_ ?_ ?_
  · rintro i σ' ys H' hi ⟨_, s, h1, qs, rfl, h3, _⟩
    refine ⟨s.seq e, h1, ?_⟩
    have := congrArg List.length h3
    rw [List.length_map, List.length_take] at this
    rw [List.length_map]
    exact small1000 (by omega)
  · rintro i x σ' ys H' N hx ⟨⟨v, rfl⟩, s, h1, qs, rfl, h3, h4⟩ hN
    rw [List.getElem?_map, List.getElem?_map] at hx
    cases e1 : base[i]? with
    | none => rw [e1] at hx; cases hx
    | some m =>
      rw [e1] at hx
      obtain rfl : V.str m.1 = x := Option.some.inj hx
      refine he m (List.mem_of_getElem? e1) H' _ s fun t ht => ?_
      have st := same_new ht (.tup [.str m.1, .int m.2])
      have h5 := st _ _ h1
      have tl := tups_lst (o := .lst (qs.map (fun q => V.ref q.1) ++ [V.ref t])) h5
      refine ⟨h5, hN _ _ _ ⟨⟨_, rfl⟩, upd_off (s.trans st) hp, upd_same, qs ++ [(t, m)], ?_, ?_, ?_⟩⟩
      · rw [List.map_append]; rfl
      · rw [List.map_append, h3, take_snoc e1]; rfl
      · intro q hq
        rcases List.mem_append.mp hq with z | z
        · exact tl _ _ (st _ _ (h4 q z))
        · rw [List.mem_singleton.mp z]
          exact tl _ _ upd_same
  · rintro σ' ys H' ⟨_, s, h1, qs, rfl, h3, h4⟩
    refine hq H' qs s ?_ h1 h4
    rw [h3, List.take_of_length_le (by simp)]
def spTwo6 : Sp := fun vs H Q _ => ∃ (b g l : Addr) (n : Int), vs = [.ref b] ∧ Bag H b g l n ∧ n ≤ 10 ^ 6 ∧ ∀ (r p q : Addr) (w w' : List WP) (H' : Hp), H' r = some (.tup [.ref p, .ref q]) → WishAt H' p w → WishAt H' q w' → WDrawn w → WDrawn w' → Bag H' b g l (n + 1000) → SameB b g H H' → Q (.ref r) H'

theorem row_len (w' : List WP) (p : WP) : (rowOf w' p).length ≤ 15 := by
  unfold rowOf
  have h1 := List.length_filter_le (inB p.2.1 p.2.2) (ptsOf [(p.2.1, p.2.2), spanOr w' p.1])
  have h2 := pts_len [(p.2.1, p.2.2), spanOr w' p.1]
  simp at h2
  omega
theorem flat_len (w' : List WP) (b : List PP) : ∀ w : List WP, (w.flatMap fun p => (rowOf w' p).map (setPc b p.1)).length ≤ 15 * w.length
  | [] => by simp
  | p :: w => by
    rw [List.flatMap_cons, List.length_append, List.length_map, List.length_cons]
    have := flat_len w' b w
    have := row_len w' p
    omega
end L2

set_option Elab.async false
set_option linter.all false
set_option maxRecDepth 100000
set_option exponentiation.threshold 2000
namespace L2
open PySem PySem.Spec PyProof.Rows
theorem asc_uni {w : List WP} (h : (w.map (·.1)).Pairwise ltF) : ∀ {x y : WP}, x ∈ w → y ∈ w → x.1 = y.1 → x = y := by
  induction w with
  | nil => intro x y hx; simp at hx
  | cons z r ih =>
    rw [List.map_cons, List.pairwise_cons] at h
    intro x y hx hy e
    rcases List.mem_cons.mp hx with e1 | hx1
    · rcases List.mem_cons.mp hy with e2 | hy1
      · rw [e1, e2]
      · rw [e1] at e
        exact absurd e (ltF_ne (h.1 _ (List.mem_map_of_mem hy1)))
    · rcases List.mem_cons.mp hy with e2 | hy1
      · rw [e2] at e
        exact absurd e.symm (ltF_ne (h.1 _ (List.mem_map_of_mem hx1)))
      · exact ih h.2 hx1 hy1 e
theorem find_self {w : List WP} (h : (w.map (·.1)).Pairwise ltF) {x : WP} (hx : x ∈ w) : w.find? (fun p => decide (p.1 = x.1)) = some x := by
  cases e : w.find? (fun p => decide (p.1 = x.1)) with
  | none => exact absurd (decide_eq_true rfl) (List.find?_eq_none.mp e x hx)
  | some y =>
    have h2 : decide (y.1 = x.1) = true := List.find?_some (p := fun (p : WP) => decide (p.1 = x.1)) e
    rw [asc_uni h (List.mem_of_find?_eq_some e) hx (of_decide_eq_true h2)]
theorem spanOf_self {w : List WP} (h : (w.map (·.1)).Pairwise ltF) {x : WP} (hx : x ∈ w) : spanOf w x.1 = some x.2 := by
  unfold spanOf
  rw [find_self h hx]
  rfl
theorem numIn_map (g : WP → Int) (f : Str) : ∀ w : List WP, numIn (w.map fun p => (p.1, g p)) f = (w.find? (fun p => decide (p.1 = f))).map g
  | [] => rfl
  | p :: w => by
    have ih := numIn_map g f w
    unfold numIn at *
    by_cases h : p.1 = f
    · simp [List.find?_cons, h]
    · simp [List.find?_cons, h] at ih ⊢
      exact ih
theorem numIn_set (f : Str) (k : Int) (g : Str) : ∀ b : List PP, numIn (setPc b f k) g = if g = f then (numIn b g).map (fun _ => k) else numIn b g
  | [] => by simp [setPc, numIn]
  | x :: b => by
    have ih := numIn_set f k g b
    unfold setPc numIn at *
    by_cases h : x.1 = g
    · subst h
      by_cases h2 : x.1 = f
      · simp [List.find?_cons, h2]
      · simp [List.find?_cons, h2]
    · by_cases h2 : x.1 = f
      · have : f ≠ g := fun z => h (h2.trans z)
        simp [List.find?_cons, h, h2, this] at ih ⊢
        exact ih
      · simp [List.find?_cons, h, h2] at ih ⊢
        exact ih
theorem first_in {w' : List WP} {p : WP} (h : leO p.2.1 p.2.2 = true) : firstOf w' p ∈ rowOf w' p := by
  unfold firstOf
  cases e : rowOf w' p with
  | nil => exact absurd e (row_ne h)
  | cons x r => simp
theorem row_in {w' : List WP} {p : WP} {k : Int} (h : k ∈ rowOf w' p) : inB p.2.1 p.2.2 k = true := (List.mem_filter.mp h).2
theorem base_num {w w' : List WP} (d : WDrawn w) {y : WP} (hy : y ∈ w) : numIn (basePc w w') y.1 = some (firstOf w' y) := by
  unfold basePc
  rw [numIn_map, find_self d.asc hy]
  rfl
/-- each of the pieces is wanted by the wish they were made of -/
theorem pieces_in {w w' : List WP} (d : WDrawn w) {p : List PP} (hp : p ∈ piecesOf w w') {y : WP} (hy : y ∈ w) : ∃ n, numIn p y.1 = some n ∧ inB y.2.1 y.2.2 n = true := by
  have fy : inB y.2.1 y.2.2 (firstOf w' y) = true := row_in (first_in (d.ok y hy).2.le)
  unfold piecesOf at hp
  rcases List.mem_cons.mp hp with rfl | hp
  · exact ⟨_, base_num d hy, fy⟩
  · obtain ⟨p0, h0, hp⟩ := List.mem_flatMap.mp hp
    obtain ⟨k, hk, rfl⟩ := List.mem_map.mp hp
    rw [numIn_set, base_num d hy]
    by_cases e : y.1 = p0.1
    · rw [if_pos e]
      obtain rfl := asc_uni d.asc hy h0 e
      exact ⟨k, rfl, row_in hk⟩
    · rw [if_neg e]
      exact ⟨_, rfl, fy⟩
theorem pts_swap (a b : Option Int × Option Int) (k : Int) (h : k ∈ ptsOf [a, b]) : k ∈ ptsOf [b, a] := by
  unfold ptsOf at *
  simp only [List.flatMap_cons, List.flatMap_nil, List.append_nil, List.mem_append] at *
  rcases h with h | h | h
  · exact .inl h
  · exact .inr (.inr h)
  · exact .inr (.inl h)
theorem due_reach {w w' : List WP} (d : WDrawn w) (d' : WDrawn w') : (piecesOf w w').all (takesW w') = reachW w' w := by
  cases hr : reachW w' w with
  | true =>
    rw [List.all_eq_true]
    intro p hp
    unfold takesW
    rw [List.all_eq_true]
    intro x hx
    unfold reachW at hr
    have rx := List.all_eq_true.mp hr x hx
    cases hs : spanOf w x.1 with
    | none => rw [reachP_none hs] at rx; cases rx
    | some s =>
      rw [reachP_some hs] at rx
      obtain ⟨y, hy, e1, e2⟩ := spanOf_mem hs
      obtain ⟨n, n1, n2⟩ := pieces_in d hp hy
      rw [e1] at n1
      rw [takesP_some n1]
      have := reach_all rx n
      rw [e2] at n2
      rw [n2] at this
      simpa using this
  | false =>
    unfold reachW at hr
    obtain ⟨x, hx, rx⟩ := List.all_eq_false.mp hr
    rw [List.all_eq_false]
    cases hs : spanOf w x.1 with
    | none =>
      refine ⟨basePc w w', by unfold piecesOf; exact List.mem_cons_self, ?_⟩
      rw [takesW_out hx]
      · exact Bool.false_ne_true
      · apply takesP_none
        unfold basePc
        rw [numIn_map]
        unfold spanOf at hs
        rw [Option.map_eq_none_iff] at hs
        rw [hs]
        rfl
    | some s =>
      rw [reachP_some hs, Bool.not_eq_true] at rx
      obtain ⟨y, hy, e1, e2⟩ := spanOf_mem hs
      obtain ⟨k, k1, k2⟩ := reach_not (d'.ok x hx).2.le (by rw [← e2]; exact (d.ok y hy).2.le) rx
      rw [Bool.and_eq_true] at k2
      have hk : k ∈ rowOf w' y := by
        unfold rowOf
        rw [List.mem_filter, e2]
        refine ⟨?_, k2.1⟩
        have : spanOr w' y.1 = x.2 := by
          unfold spanOr
          rw [e1, spanOf_self d'.asc hx]
          rfl
        rw [this]
        exact pts_swap _ _ k k1
      refine ⟨setPc (basePc w w') y.1 k, ?_, ?_⟩
      · unfold piecesOf
        exact List.mem_cons_of_mem _ (List.mem_flatMap.mpr ⟨y, hy, List.mem_map_of_mem hk⟩)
      · rw [takesW_out hx]
        · exact Bool.false_ne_true
        · have : numIn (setPc (basePc w w') y.1 k) x.1 = some k := by
            rw [numIn_set, ← e1, if_pos rfl, base_num d hy]
            rfl
          rw [takesP_some this]
          simpa using k2.2

theorem numOf_in {lo hi : Option Int} (h : leO lo hi = true) : inB lo hi (numOf lo hi) = true := by
  cases lo <;> cases hi <;> simp [leO, inB, loB, hiB, numOf] at h ⊢
  exact decide_eq_true h
theorem numOf_ap {lo hi : Option Int} (h : ¬ apart lo hi = true) : inB lo hi (numOf lo hi) = true := by
  cases lo <;> cases hi <;> simp [apart, inB, loB, hiB, numOf] at h ⊢
  exact decide_eq_true h
theorem na_in {lo hi lo2 hi2 : Option Int} {n : Int} (h : numApart lo hi lo2 hi2 = some n) : inB lo hi n = true ∧ inB lo2 hi2 n = false := by
  unfold numApart at h
  cases hb : apBelow lo hi lo2 with
  | some m =>
    rw [hb] at h
    obtain rfl : m = n := Option.some.inj h
    unfold apBelow at hb
    cases lo2 with
    | none => cases hb
    | some l =>
      simp only at hb
      split at hb
      · cases hb
      · rename_i ap
        obtain rfl := Option.some.inj hb
        have z := numOf_ap ap
        have m := met_in lo hi none (some (l - 1)) (numOf lo (mHi hi (some (l - 1))))
        rw [mLo_none] at m
        rw [m, Bool.and_eq_true] at z
        refine ⟨z.1, ?_⟩
        have z2 : numOf lo (mHi hi (some (l - 1))) ≤ l - 1 := by
          have := z.2
          simp [inB, loB, hiB] at this
          exact this
        cases hi2 <;> simp [inB, loB, hiB] <;> omega
  | none =>
    rw [hb] at h
    unfold apAbove at h
    cases hi2 with
    | none => cases h
    | some u =>
      simp only at h
      split at h
      · cases h
      · rename_i ap
        obtain rfl := Option.some.inj h
        have z := numOf_ap ap
        have m := met_in lo hi (some (u + 1)) none (numOf (mLo lo (some (u + 1))) hi)
        rw [mHi_none] at m
        rw [m, Bool.and_eq_true] at z
        refine ⟨z.1, ?_⟩
        have z2 : u + 1 ≤ numOf (mLo lo (some (u + 1))) hi := by
          have := z.2
          simp [inB, loB, hiB] at this
          exact this
        cases lo2 <;> simp [inB, loB, hiB] <;> omega
theorem na_not {lo hi lo2 hi2 : Option Int} (hl : leO lo hi = true) (hl2 : leO lo2 hi2 = true) (h : reachB lo2 hi2 lo hi = false) : numApart lo hi lo2 hi2 ≠ none := by
  intro hn
  obtain ⟨k, _, k2⟩ := reach_not hl2 hl h
  rw [Bool.and_eq_true] at k2
  unfold numApart at hn
  cases hb : apBelow lo hi lo2 with
  | some m => rw [hb] at hn; cases hn
  | none =>
    rw [hb] at hn
    have b1 : ∀ l, lo2 = some l → ¬ k < l := by
      intro l e lt
      subst e
      unfold apBelow at hb
      simp only at hb
      split at hb
      · rename_i ap
        have z := apart_in ap k
        have m := met_in lo hi none (some (l - 1)) k
        rw [mLo_none] at m
        rw [m, k2.1] at z
        simp [inB, loB, hiB] at z
        omega
      · cases hb
    have b2 : ∀ u, hi2 = some u → ¬ u < k := by
      intro u e lt
      subst e
      unfold apAbove at hn
      simp only at hn
      split at hn
      · rename_i ap
        have z := apart_in ap k
        have m := met_in lo hi (some (u + 1)) none k
        rw [mHi_none] at m
        rw [m, k2.1] at z
        simp [inB, loB, hiB] at z
        omega
      · cases hn
    have : inB lo2 hi2 k = true := by
      cases lo2 with
      | none =>
        cases hi2 with
        | none => simp [inB, loB, hiB]
        | some u => have := b2 u rfl; simp [inB, loB, hiB]; omega
      | some l =>
        have := b1 l rfl
        cases hi2 with
        | none => simp [inB, loB, hiB]; omega
        | some u => have := b2 u rfl; simp [inB, loB, hiB]; omega
    rw [this] at k2
    simp at k2
theorem part_num {w w' : List WP} (d : WDrawn w) {y : WP} (hy : y ∈ w) : numIn (partP w w') y.1 = some (numFor w' y) := by
  unfold partP
  rw [numIn_map, find_self d.asc hy]
  rfl
theorem part_ok {w w' : List WP} (d : WDrawn w) : POk (partP w w') := by
  have hk : (partP w w').map (·.1) = w.map (·.1) := by unfold partP; rw [List.map_map]; rfl
  refine ⟨by unfold partP; rw [List.length_map]; have := d.len; omega, fun x hx => ?_, by rw [hk]; exact d.asc⟩
  obtain ⟨p, hp, rfl⟩ := List.mem_map.mp hx
  exact (d.ok p hp).1
theorem part_takes {w w' : List WP} (d : WDrawn w) : takesW w (partP w w') = true := by
  unfold takesW
  rw [List.all_eq_true]
  intro p hp
  rw [takesP_some (part_num d hp)]
  cases e : numApart p.2.1 p.2.2 ((spanOf w' p.1).getD (none, none)).1 ((spanOf w' p.1).getD (none, none)).2 with
  | some n => rw [numFor_some rfl e]; exact (na_in e).1
  | none => rw [numFor_none rfl e]; exact numOf_in (d.ok p hp).2.le
theorem part_not {w w' : List WP} (d : WDrawn w) (d' : WDrawn w') (h : reachW w' w = false) : takesW w' (partP w w') = false := by
  unfold reachW at h
  obtain ⟨x, hx, rx⟩ := List.all_eq_false.mp h
  refine takesW_out hx ?_
  cases hs : spanOf w x.1 with
  | none =>
    apply takesP_none
    unfold partP
    rw [numIn_map]
    unfold spanOf at hs
    rw [Option.map_eq_none_iff] at hs
    rw [hs]
    rfl
  | some s =>
    rw [reachP_some hs, Bool.not_eq_true] at rx
    obtain ⟨y, hy, e1, e2⟩ := spanOf_mem hs
    have hn := part_num (w' := w') d hy
    rw [e1] at hn
    rw [takesP_some hn]
    have so : (spanOf w' y.1).getD (none, none) = x.2 := by rw [e1, spanOf_self d'.asc hx]; rfl
    cases e : numApart y.2.1 y.2.2 x.2.1 x.2.2 with
    | none => exact absurd e (na_not (d.ok y hy).2.le (d'.ok x hx).2.le (by rw [e2]; exact rx))
    | some n => rw [numFor_some so e]; exact (na_in e).2
def spRight6 : Sp := fun vs H Q _ => ∃ (a b : Addr) (t : Bool) (w w' : List WP), vs = [.ref a, .ref b, .bl t] ∧ WishAt H a w ∧ WishAt H b w' ∧ WDrawn w ∧ WDrawn w' ∧ ∀ H', Same H H' → Q (.bl true) H'

def dP (p : List PP) : PD := .tup (p.map fun x => .tup [.str x.1, .int x.2])
theorem reps_P {K : PySem.W.Frag} {H : Hp} : ∀ ps : List (Addr × PP), (∀ p ∈ ps, H p.1 = some (.tup [.str p.2.1, .int p.2.2])) → Reps K H ((ps.map (·.2)).map fun x => PD.tup [.str x.1, .int x.2]) (ps.map fun p => V.ref p.1)
  | [], _ => by show Reps K H [] []; rw [Reps]
  | p :: ps, h => by
    show Reps K H (PD.tup [.str p.2.1, .int p.2.2] :: _) (V.ref p.1 :: _)
    rw [Reps]
    refine ⟨_, _, rfl, ?_, reps_P ps fun q hq => h q (List.mem_cons_of_mem _ hq)⟩
    rw [Rep]
    refine ⟨p.1, _, rfl, SqT.of (h p List.mem_cons_self), ?_⟩
    rw [Reps]
    refine ⟨_, _, rfl, by rw [Rep], ?_⟩
    rw [Reps]
    exact ⟨_, _, rfl, by rw [Rep], by rw [Reps]⟩
theorem rep_P {K : PySem.W.Frag} {H : Hp} {a : Addr} {p : List PP} (h : PieceAt H a p) : Rep K H (dP p) (.ref a) := by
  obtain ⟨ps, rfl, h1, h2⟩ := h
  unfold dP
  rw [Rep]
  exact ⟨a, _, rfl, SqT.of h1, reps_P ps h2⟩
theorem depth_P1 : ∀ p : List PP, depthDs (p.map fun x => PD.tup [.str x.1, .int x.2]) ≤ 1
  | [] => by show depthDs [] ≤ 1; rw [depthDs]; omega
  | x :: p => by
    show depthDs (PD.tup [.str x.1, .int x.2] :: p.map fun x => PD.tup [.str x.1, .int x.2]) ≤ 1
    have := depth_P1 p
    have h1 : depthD (PD.tup [.str x.1, .int x.2]) = 1 := by simp [depthD, depthDs]
    rw [depthDs, h1]
    omega
theorem depth_P (p : List PP) : depthD (dP p) ≤ 2 := by
  unfold dP
  rw [depthD]
  have := depth_P1 p
  omega
theorem depth_Ps : ∀ qs : List (Addr × List PP), depthDs (qs.map fun q => dP q.2) ≤ 2
  | [] => by show depthDs [] ≤ 2; rw [depthDs]; omega
  | q :: qs => by
    show depthDs (dP q.2 :: qs.map fun q => dP q.2) ≤ 2
    rw [depthDs]
    have := depth_P q.2
    have := depth_Ps qs
    omega
theorem reps_Ps {K : PySem.W.Frag} {H : Hp} : ∀ qs : List (Addr × List PP), (∀ q ∈ qs, PieceAt H q.1 q.2) → Reps K H (qs.map fun q => dP q.2) (qs.map fun q => V.ref q.1)
  | [], _ => by show Reps K H [] []; rw [Reps]
  | q :: qs, h => by
    show Reps K H (dP q.2 :: _) (V.ref q.1 :: _)
    rw [Reps]
    exact ⟨_, _, rfl, rep_P (h q List.mem_cons_self), reps_Ps qs fun r hr => h r (List.mem_cons_of_mem _ hr)⟩
theorem eqNilP {K : PySem.W.Frag} {H : Hp} {a p : Addr} {qs : List (Addr × List PP)} {Q : VK} (h : SqL K H a (qs.map fun q => V.ref q.1)) (hq : ∀ q ∈ qs, PieceAt H q.1 q.2) (hp : SqL K H p []) (q : Q (.bl qs.isEmpty) H) : rEqD K (.ref a) (.ref p) H Q := by
  refine ⟨.lst (qs.map fun q => dP q.2), .lst [], by rw [Rep]; exact ⟨a, _, rfl, h, reps_Ps qs hq⟩, by rw [Rep]; exact ⟨p, _, rfl, hp, by rw [Reps]⟩, by rw [depthD]; have := depth_Ps qs; omega, ?_⟩
  cases qs with
  | nil => rw [pyEq, show pyEqs (([] : List (Addr × List PP)).map fun q => dP q.2) [] = true from pyEqs_refl []]; exact q
  | cons n ns => rw [pyEq, pyEqs_len (by simp)]; exact q

theorem pieces_ok {w w' : List WP} (d : WDrawn w) {p : List PP} (hp : p ∈ piecesOf w w') : POk p := by
  have hk : p.map (·.1) = w.map (·.1) := by
    unfold piecesOf at hp
    have hb : (basePc w w').map (·.1) = w.map (·.1) := by unfold basePc; rw [List.map_map]; rfl
    rcases List.mem_cons.mp hp with rfl | hp
    · exact hb
    · obtain ⟨p0, h0, hp⟩ := List.mem_flatMap.mp hp
      obtain ⟨k, hk, rfl⟩ := List.mem_map.mp hp
      rw [setPc_keys, hb]
  refine ⟨?_, fun x hx => ?_, by rw [hk]; exact d.asc⟩
  · have := congrArg List.length hk
    rw [List.length_map, List.length_map] at this
    have := d.len
    omega
  · have : x.1 ∈ w.map (·.1) := by rw [← hk]; exact List.mem_map_of_mem hx
    obtain ⟨y, hy, e⟩ := List.mem_map.mp this
    rw [← e]
    exact (d.ok y hy).1
end L2

set_option maxHeartbeats 4000000

namespace K06
open PySem PySem.Spec PyProof.Rows L2
def top (i : Nat) : Stmt := PySem.Challenge.pw_newsways_k06_whole_covers_or_parts.main.body.getD i (.Pass ⟨0, 0, 0, 0⟩)
abbrev s_is_whole : Stmt := top 5
abbrev s_is_end : Stmt := top 6
abbrev s_is_span : Stmt := top 7
abbrev s_span_holds : Stmt := top 8
abbrev s_span_reaches : Stmt := top 9
abbrev s_span_shared : Stmt := top 10
abbrev s_number_of : Stmt := top 11
abbrev s_number_apart : Stmt := top 12
abbrev s_is_field : Stmt := top 15
abbrev s_is_wish_part : Stmt := top 16
abbrev s_is_piece_part : Stmt := top 17
abbrev s_fields_ascend : Stmt := top 18
abbrev s_is_wish : Stmt := top 19
abbrev s_is_piece : Stmt := top 20
abbrev s_check_wish : Stmt := top 21
abbrev s_check_piece : Stmt := top 22
abbrev s_wish_takes : Stmt := top 27
abbrev s_wants : Stmt := top 23
abbrev s_spans_by_field : Stmt := top 26
abbrev s_reaches_spans : Stmt := top 29
abbrev s_wish_reaches : Stmt := top 28
abbrev s_covers : Stmt := top 24
abbrev s_parting_piece : Stmt := top 25
abbrev s_law_bag : Stmt := top 31
abbrev s_law_draw : Stmt := top 32
abbrev s_law_number : Stmt := top 33
abbrev s_law_held : Stmt := top 34
abbrev s_law_span : Stmt := top 35
abbrev s_law_whole : Stmt := top 36
abbrev s_law_in : Stmt := top 37
abbrev s_law_field : Stmt := top 38
abbrev s_law_fields : Stmt := top 39
abbrev s_law_moved : Stmt := top 40
abbrev s_law_wish : Stmt := top 41
abbrev s_law_beside : Stmt := top 42
abbrev s_law_two : Stmt := top 43
abbrev s_law_span_of : Stmt := top 44
abbrev s_law_points : Stmt := top 45
abbrev s_law_wants : Stmt := top 46
abbrev s_law_is_field : Stmt := top 47
abbrev s_law_is_span : Stmt := top 48
abbrev s_law_is_made : Stmt := top 49
abbrev s_law_pieces : Stmt := top 50
abbrev s_law_right : Stmt := top 51
abbrev s_law : Stmt := top 52

section
variable {P : Program} {w : World} {K : PySem.W.Frag} {mg : Str → Option Value} {base : Heap}

theorem sc_is_whole : FnScope ["thing"] ["thing"] (defScope s_is_whole) := ⟨rfl, rfl, rfl, by decide +kernel, rfl, by decide +kernel, by decide +kernel⟩
theorem ok_is_whole {f : Addr} {fd : FuncData} (F : Fun K "is_whole" "is_whole" s_is_whole f fd) (B : Bl mg) {t_MOST_LETTERS : Tok} (C_MOST_LETTERS : mg "MOST_LETTERS" = some (.int 8 t_MOST_LETTERS))  : FnOk P w K mg base CX0 1 f fd ["thing"] (spWhole K) := by
  refine F.ok sc_is_whole (fun vs H Q E h => ?_) (fun cdv A outer s H vs Q E hr h => ?_)
  · obtain ⟨v, t, rfl, hty, q⟩ := h
    rfl
  obtain ⟨v, t, rfl, hty, q⟩ := h
  refine ⟨_, (pss_one (ps_ret (pe_and (pe_callB (call_isinst (n := "")) rfl B.isinstance_ bt_isinstance (pa_cons (pv 0) (pa_cons (pe_bltn (v := .ty "int") rfl B.int_ bt_int rfl) pa_nil))) (pe_one (pe_not (pe_callB (call_isinst (n := "")) rfl B.isinstance_ bt_isinstance (pa_cons (pv 0) (pa_cons (pe_bltn (v := .ty "bool") rfl B.bool_ bt_bool rfl) pa_nil)))))))), ?_⟩
  cases hty
  all_goals first
    | exact ⟨_, rfl, _, "int", "int", true, rfl, .int _, rfl, _, rfl, iteT ⟨_, rfl, _, "int", "bool", false, rfl, .int _, rfl, _, rfl, q⟩⟩
    | exact ⟨_, rfl, _, "bool", "int", true, rfl, .bl _, rfl, _, rfl, iteT ⟨_, rfl, _, "bool", "bool", true, rfl, .bl _, rfl, _, rfl, q⟩⟩
    | exact ⟨_, rfl, _, _, "int", false, rfl, (by first | exact .non | exact .str _ | exact .flt _ | (exact .lst (by assumption)) | (exact .frz (by assumption)) | (exact .tup (by assumption)) | (exact .dK (by assumption)) | (exact .dT (by assumption))), rfl, _, rfl, iteF q⟩

theorem sc_is_end : FnScope ["thing"] ["thing"] (defScope s_is_end) := ⟨rfl, rfl, rfl, by decide +kernel, rfl, by decide +kernel, by decide +kernel⟩
theorem ok_is_end {f : Addr} {fd : FuncData} (F : Fun K "is_end" "is_end" s_is_end f fd) (B : Bl mg) {t_MOST_LETTERS : Tok} (C_MOST_LETTERS : mg "MOST_LETTERS" = some (.int 8 t_MOST_LETTERS)) (G_is_whole : FnH P w K mg base 1 "is_whole" ["thing"] (spWhole K)) : FnOk P w K mg base CX0 2 f fd ["thing"] (spEnd K) := by
  refine F.ok sc_is_end (fun vs H Q E h => ?_) (fun cdv A outer s H vs Q E hr h => ?_)
  · obtain ⟨v, t, rfl, hty, q⟩ := h
    rfl
  obtain ⟨v, t, rfl, hty, q⟩ := h
  refine ⟨_, (pss_one (ps_ret (pe_or (pe_cmp (pc_isN (pv 0))) (pe_one (pe_fn G_is_whole (hr.mono (by decide)) rfl (pa_cons (pv 0) pa_nil)))))), ?_⟩
  refine ⟨_, rfl, _, rfl, ?_⟩
  cases hty
  case non => exact iteT q
  all_goals refine iteF ?_
  case int i => exact ⟨_, rfl, _, _, rfl, .int _, q⟩
  all_goals exact ⟨_, rfl, _, _, rfl, (by first | exact .bl _ | exact .str _ | exact .flt _ | (exact .lst (by assumption)) | (exact .frz (by assumption)) | (exact .tup (by assumption)) | (exact .dK (by assumption)) | (exact .dT (by assumption))), q⟩

theorem sc_is_span : FnScope ["thing", "low", "high"] ["thing"] (defScope s_is_span) := ⟨rfl, rfl, rfl, by decide +kernel, rfl, by decide +kernel, by decide +kernel⟩
theorem ok_is_span {f : Addr} {fd : FuncData} (F : Fun K "is_span" "is_span" s_is_span f fd) (B : Bl mg) {t_MOST_LETTERS : Tok} (C_MOST_LETTERS : mg "MOST_LETTERS" = some (.int 8 t_MOST_LETTERS)) (G_is_end : FnH P w K mg base 2 "is_end" ["thing"] (spEnd K)) : FnOk P w K mg base CX0 3 f fd ["thing"] (spIsSpan K) := by
  refine F.ok sc_is_span (fun vs H Q E h => ?_) (fun cdv A outer s H vs Q E hr h => ?_)
  · obtain ⟨v, t, rfl, hty, hp, q⟩ := h
    rfl
  obtain ⟨v, t, rfl, hty, hp, q⟩ := h
  refine ⟨_, (pss_cons (ps_if (PW.pt (pw_or (pt_not (pt_val (pe_callB (call_isinst (n := "")) rfl B.isinstance_ bt_isinstance (pa_cons (pv 0) (pa_cons (pe_bltn (v := .ty "tuple") rfl B.tuple_ bt_tuple rfl) pa_nil))))) (pw_or1 (pt_cmpR op_ne (pe_callB call_len_seq rfl B.len_ bt_len (pa_cons (pv 0) pa_nil)) pe_int (nomark _))))) (pss_one (ps_ret pe_bl)) pss_nil)
      (pss_cons (ps_asg (pv 0) (pg_tup rfl (pgs_cons (pg_name (i := 1) sc_is_span.nd rfl (Or.inl rfl)) (pgs_cons (pg_name (i := 2) sc_is_span.nd rfl (Or.inl rfl)) pgs_nil))))
      (pss_cons (ps_if (PW.pt (pw_or (pt_not (pt_val (pe_fn G_is_end (hr.mono (by decide)) rfl (pa_cons (pv 1) pa_nil)))) (pw_or1 (pt_not (pt_val (pe_fn G_is_end (hr.mono (by decide)) rfl (pa_cons (pv 2) pa_nil))))))) (pss_one (ps_ret pe_bl)) pss_nil)
      (pss_one (ps_ret (pe_or (pe_cmp (pc_isN (pv 1))) (pe_or (pe_cmp (pc_isN (pv 2))) (pe_one (pe_cmpR op_le (pv 1) (pv 2) (nomark _)))))))))), ?_⟩
  have q0 : isSpanV H v = false → Q (.bl false) H := fun h => by rw [← h]; exact q
  cases hty
  case tup a xs e =>
    refine ⟨_, rfl, _, "tuple", "tuple", true, rfl, .tup e, rfl, _, rfl, iteF ⟨_, rfl, a, _, rfl, .inr (SqT.of e), rfl, _, rfl, ?_⟩⟩
    by_cases hl : xs.length = 2
    · match xs, hl with
      | [x, y], _ =>
        refine iteF ⟨_, rfl, a, _, rfl, SqT.of e, rfl, _, _, rfl, _, _, rfl, rfl, ?_⟩
        obtain ⟨t1, t2, h1, h2⟩ := hp a x y rfl e
        have es : isSpanV H (.ref a) = (endV x && endV y && leV x y) := by unfold isSpanV; simp only [e]
        rw [es] at q
        refine ⟨_, rfl, _, _, rfl, h1, _, rfl, ?_⟩
        cases ex : endV x with
        | false =>
          rw [ex] at q
          exact iteT q
        | true =>
          rw [ex] at q
          refine iteF ⟨_, rfl, _, _, rfl, h2, _, rfl, ?_⟩
          cases ey : endV y with
          | false =>
            rw [ey] at q
            exact iteT q
          | true =>
            rw [ey] at q
            refine iteF ⟨_, rfl, _, rfl, ?_⟩
            cases x with
            | non => exact iteT q
            | int i =>
              refine iteF ⟨_, rfl, _, rfl, ?_⟩
              cases y with
              | non => exact iteT q
              | int j => exact iteF ⟨_, rfl, _, rfl, _, _, rfl, rfl, q⟩
              | _ => exact absurd ey Bool.false_ne_true
            | _ => exact absurd ex Bool.false_ne_true
    · have es : isSpanV H (.ref a) = false := by
        unfold isSpanV
        simp only [e]
        match xs, hl with
        | [], _ => rfl
        | [_], _ => rfl
        | [_, _], h => exact absurd rfl h
        | _ :: _ :: _ :: _, _ => rfl
      have ed : (!decide (V.int ((xs.length : Nat) : Int) = V.int 2)) = true := by
        have : ¬ V.int ((xs.length : Nat) : Int) = V.int 2 := fun z => by injection z with z; omega
        rw [decide_eq_false this]
        rfl
      rw [es] at q
      show if (!decide (V.int ((xs.length : Nat) : Int) = V.int 2)) = true then _ else _
      rw [ed]
      exact iteT q
  case non => exact ⟨_, rfl, _, _, "tuple", false, rfl, .non, rfl, _, rfl, iteT (q0 rfl)⟩
  case bl b => exact ⟨_, rfl, _, _, "tuple", false, rfl, (.bl b), rfl, _, rfl, iteT (q0 rfl)⟩
  case int i => exact ⟨_, rfl, _, _, "tuple", false, rfl, (.int i), rfl, _, rfl, iteT (q0 rfl)⟩
  case str x => exact ⟨_, rfl, _, _, "tuple", false, rfl, (.str x), rfl, _, rfl, iteT (q0 rfl)⟩
  case flt x => exact ⟨_, rfl, _, _, "tuple", false, rfl, (.flt x), rfl, _, rfl, iteT (q0 rfl)⟩
  case lst a xs e => exact ⟨_, rfl, _, _, "tuple", false, rfl, (.lst e), rfl, _, rfl, iteT (q0 (by unfold isSpanV; simp only [e]))⟩
  case frz a o xs e => exact ⟨_, rfl, _, _, "tuple", false, rfl, (.frz e), rfl, _, rfl, iteT (q0 (by unfold isSpanV; simp only [e]))⟩
  case dK a kvs e => exact ⟨_, rfl, _, _, "tuple", false, rfl, (.dK e), rfl, _, rfl, iteT (q0 (by unfold isSpanV; simp only [e]))⟩
  case dT a kvs e => exact ⟨_, rfl, _, _, "tuple", false, rfl, (.dT e), rfl, _, rfl, iteT (q0 (by unfold isSpanV; simp only [e]))⟩

theorem sc_span_holds : FnScope ["span", "number", "low", "high"] ["span", "number"] (defScope s_span_holds) := ⟨rfl, rfl, rfl, by decide +kernel, rfl, by decide +kernel, by decide +kernel⟩
theorem ok_span_holds {f : Addr} {fd : FuncData} (F : Fun K "span_holds" "span_holds" s_span_holds f fd) (B : Bl mg) {t_MOST_LETTERS : Tok} (C_MOST_LETTERS : mg "MOST_LETTERS" = some (.int 8 t_MOST_LETTERS))  : FnOk P w K mg base CX0 1 f fd ["span", "number"] (spIn) := by
  refine F.ok sc_span_holds (fun vs H Q E h => ?_) (fun cdv A outer s H vs Q E hr h => ?_)
  · obtain ⟨v, lo, hi, k, rfl, S1, q⟩ := h
    rfl
  obtain ⟨v, lo, hi, k, rfl, S1, q⟩ := h
  refine ⟨_, (pss_cons (ps_asg (pv 0) (pg_tup rfl (pgs_cons (pg_name (i := 2) sc_span_holds.nd rfl (Or.inl rfl)) (pgs_cons (pg_name (i := 3) sc_span_holds.nd rfl (Or.inl rfl)) pgs_nil))))
      (pss_one (ps_ret (pe_and (pe_or (pe_cmp (pc_isN (pv 2))) (pe_one (pe_cmpR op_le (pv 2) (pv 1) (nomark _)))) (pe_one (pe_or (pe_cmp (pc_isN (pv 3))) (pe_one (pe_cmpR op_le (pv 1) (pv 3) (nomark _))))))))), ?_⟩
  obtain ⟨a, rfl, e1⟩ := S1
  refine ⟨_, rfl, a, _, rfl, SqT.of e1, rfl, _, _, rfl, _, _, rfl, rfl, ?_⟩
  have up : ∀ (Q' : VK), Q' (.bl (hiB hi k)) H → tOrV (fun σ H Q => tVar 3 σ H fun x H1 => Q (.bl (decide (x = .non))) H1) (tOp (rI0 fun i j => V.bl (decide (i ≤ j))) (tVar 1) (tVar 3)) [some (V.ref a), some (V.int k), some (eV lo), some (eV hi)] H Q' := fun Q' h => by
    refine ⟨_, rfl, _, rfl, ?_⟩
    cases hi with
    | none => exact iteT h
    | some u => exact iteF ⟨_, rfl, _, rfl, _, _, rfl, rfl, h⟩
  cases lo with
  | none =>
    refine ⟨_, rfl, _, rfl, iteT ⟨_, rfl, iteT (up _ ?_)⟩⟩
    have z : inB none hi k = hiB hi k := by simp only [inB, loB, Bool.true_and]
    rw [z] at q
    exact q
  | some l =>
    refine ⟨_, rfl, _, rfl, iteF ⟨_, rfl, _, rfl, _, _, rfl, rfl, _, rfl, ?_⟩⟩
    cases hb : decide (l ≤ k) with
    | true =>
      have z : inB (some l) hi k = hiB hi k := by simp only [inB, loB, hb, Bool.true_and]
      rw [z] at q
      exact iteT (up _ q)
    | false =>
      have z : inB (some l) hi k = false := by simp only [inB, loB, hb, Bool.false_and]
      rw [z] at q
      exact iteF q

theorem sc_span_reaches : FnScope ["one", "other", "low", "high", "other_low", "other_high", "reaches_down", "reaches_up"] ["one", "other"] (defScope s_span_reaches) := ⟨rfl, rfl, rfl, by decide +kernel, rfl, by decide +kernel, by decide +kernel⟩
theorem ok_span_reaches {f : Addr} {fd : FuncData} (F : Fun K "span_reaches" "span_reaches" s_span_reaches f fd) (B : Bl mg) {t_MOST_LETTERS : Tok} (C_MOST_LETTERS : mg "MOST_LETTERS" = some (.int 8 t_MOST_LETTERS))  : FnOk P w K mg base CX0 1 f fd ["one", "other"] (spReach) := by
  refine F.ok sc_span_reaches (fun vs H Q E h => ?_) (fun cdv A outer s H vs Q E hr h => ?_)
  · obtain ⟨v, w, lo, hi, lo2, hi2, rfl, S1, S2, q⟩ := h
    rfl
  obtain ⟨v, w, lo, hi, lo2, hi2, rfl, S1, S2, q⟩ := h
  refine ⟨_, (pss_cons (ps_asg (pv 0) (pg_tup rfl (pgs_cons (pg_name (i := 2) sc_span_reaches.nd rfl (Or.inl rfl)) (pgs_cons (pg_name (i := 3) sc_span_reaches.nd rfl (Or.inl rfl)) pgs_nil))))
      (pss_cons (ps_asg (pv 1) (pg_tup rfl (pgs_cons (pg_name (i := 4) sc_span_reaches.nd rfl (Or.inl rfl)) (pgs_cons (pg_name (i := 5) sc_span_reaches.nd rfl (Or.inl rfl)) pgs_nil))))
      (pss_cons (ps_set (i := 6) sc_span_reaches.nd rfl (Or.inl rfl) (pe_or (pe_cmp (pc_isN (pv 2))) (pe_one (pe_and (pe_cmp (pc_notN (pv 4))) (pe_one (pe_cmpR op_le (pv 2) (pv 4) (nomark _)))))))
      (pss_cons (ps_set (i := 7) sc_span_reaches.nd rfl (Or.inl rfl) (pe_or (pe_cmp (pc_isN (pv 3))) (pe_one (pe_and (pe_cmp (pc_notN (pv 5))) (pe_one (pe_cmpR op_le (pv 5) (pv 3) (nomark _)))))))
      (pss_one (ps_ret (pe_and (pv 6) (pe_one (pv 7))))))))), ?_⟩
  obtain ⟨a, rfl, e1⟩ := S1
  obtain ⟨c, rfl, e2⟩ := S2
  refine ⟨_, rfl, a, _, rfl, SqT.of e1, rfl, _, _, rfl, _, _, rfl, rfl, ?_⟩
  refine ⟨_, rfl, c, _, rfl, SqT.of e2, rfl, _, _, rfl, _, _, rfl, rfl, ?_⟩
  cases lo <;> cases lo2 <;> cases hi <;> cases hi2
  all_goals
    refine ⟨_, rfl, _, rfl, ?_⟩
    first
      | refine iteT ?_
      | (refine iteF ⟨_, rfl, _, rfl, ?_⟩; first | refine iteF ?_ | refine iteT ⟨_, rfl, _, rfl, _, _, rfl, rfl, ?_⟩)
    refine ⟨_, rfl, _, rfl, ?_⟩
    first
      | refine iteT ?_
      | (refine iteF ⟨_, rfl, _, rfl, ?_⟩; first | refine iteF ?_ | refine iteT ⟨_, rfl, _, rfl, _, _, rfl, rfl, ?_⟩)
    refine ⟨_, rfl, _, rfl, ?_⟩
    first
      | exact iteF q
      | exact iteT ⟨_, rfl, q⟩
      | exact ite2 (fun h => ⟨_, rfl, by rw [reachB, downB, h] at q; exact q⟩) (fun h => by rw [reachB, downB, Bool.eq_false_iff.mpr h] at q; exact q)

theorem sc_span_shared : FnScope ["one", "other", "low", "high"] ["one", "other"] (defScope s_span_shared) := ⟨rfl, rfl, rfl, by decide +kernel, rfl, by decide +kernel, by decide +kernel⟩
theorem ok_span_shared {f : Addr} {fd : FuncData} (F : Fun K "span_shared" "span_shared" s_span_shared f fd) (B : Bl mg) {t_MOST_LETTERS : Tok} (C_MOST_LETTERS : mg "MOST_LETTERS" = some (.int 8 t_MOST_LETTERS))  : FnOk P w K mg base CX0 1 f fd ["one", "other"] (spShared) := by
  refine F.ok sc_span_shared (fun vs H Q E h => ?_) (fun cdv A outer s H vs Q E hr h => ?_)
  · obtain ⟨v, w, lo, hi, lo2, hi2, rfl, S1, S2, q⟩ := h
    rfl
  obtain ⟨v, w, lo, hi, lo2, hi2, rfl, S1, S2, q⟩ := h
  refine ⟨_, (pss_cons (ps_set (i := 2) sc_span_shared.nd rfl (Or.inl rfl) (pe_callBK (call_maxd rfl) rfl B.max_ bt_max (pa_cons (pe_lc (N' := ["end"]) (js := [none]) rfl (capOk (N := ["one", "other", "low", "high"]) (outer := defScope s_span_shared) (by decide +kernel)) (pi_tup (pe_tup (pa_cons (pe_ix ix_tup (pv 0) pe_int (fun _ _ => rfl)) (pa_cons (pe_ix ix_tup (pv 1) pe_int (fun _ _ => rfl)) pa_nil)))) (fun _ _ _ _ _ => (pg_name (i := 0) (show List.Nodup (["end"] : List Str) by decide +kernel) rfl (Or.inl rfl))) (fun _ _ _ _ _ => pifs_one (pt_cmp (pc_notN (pv 0)))) (fun _ _ _ _ _ => (pv 0))) pa_nil) (pk_cons pe_non pk_nil)))
      (pss_cons (ps_set (i := 3) sc_span_shared.nd rfl (Or.inl rfl) (pe_callBK (call_mind rfl) rfl B.min_ bt_min (pa_cons (pe_lc (N' := ["end"]) (js := [none]) rfl (capOk (N := ["one", "other", "low", "high"]) (outer := defScope s_span_shared) (by decide +kernel)) (pi_tup (pe_tup (pa_cons (pe_ix ix_tup (pv 0) pe_int (fun _ _ => rfl)) (pa_cons (pe_ix ix_tup (pv 1) pe_int (fun _ _ => rfl)) pa_nil)))) (fun _ _ _ _ _ => (pg_name (i := 0) (show List.Nodup (["end"] : List Str) by decide +kernel) rfl (Or.inl rfl))) (fun _ _ _ _ _ => pifs_one (pt_cmp (pc_notN (pv 0)))) (fun _ _ _ _ _ => (pv 0))) pa_nil) (pk_cons pe_non pk_nil)))
      (pss_cons (ps_if (PW.pt (pw_and (pt_cmp (pc_notN (pv 2))) (pw_and (pt_cmp (pc_notN (pv 3))) (pw_and1 (pt_cmpR op_gt (pv 2) (pv 3) (nomark _)))))) (pss_one (ps_ret pe_non)) pss_nil)
      (pss_one (ps_ret (pe_tup (pa_cons (pv 2) (pa_cons (pv 3) pa_nil)))))))), ?_⟩
  obtain ⟨a, rfl, e1⟩ := S1
  obtain ⟨c, rfl, e2⟩ := S2
  refine ⟨_, rfl, a, _, 0, _, rfl, rfl, SqT.of e1, rfl, _, rfl, c, _, 0, _, rfl, rfl, SqT.of e2, rfl, (by show 2 ≤ sizeLine; decide), fun t ht => ⟨t, rfl, ⟨_, SqT.of upd_same⟩, fun p hp => ?_⟩⟩
  refine lc_ends (os := [lo, lo2]) (cap := []) Option.isSome (by simp) (SqT.of upd_same) hp ?_ ?_ ?_ ?_ ?_
  · rfl
  · exact fun s => s.seqT (SqT.of upd_same)
  · exact fun o H' R s r => ⟨_, rfl, _, rfl, by rw [eV_notnon]; exact r⟩
  · exact fun o H' R s r => ⟨_, rfl, r⟩
  intro H1 s1 h1
  obtain ⟨ns, n1, n2⟩ := ends_max lo lo2
  rw [n1] at h1
  refine ⟨p, ns, .non, rfl, rfl, SqL.of h1, ?_⟩
  rw [n2]
  have s2 : Same H H1 := (same_new ht _).trans s1
  clear n1 n2 h1 hp s1 ht
  refine ⟨_, rfl, a, _, 1, _, rfl, rfl, SqT.of (s2 _ _ e1), rfl, _, rfl, c, _, 1, _, rfl, rfl, SqT.of (s2 _ _ e2), rfl, (by show 2 ≤ sizeLine; decide), fun t ht => ⟨t, rfl, ⟨_, SqT.of upd_same⟩, fun p hp => ?_⟩⟩
  refine lc_ends (os := [hi, hi2]) (cap := []) Option.isSome (by simp) (SqT.of upd_same) hp ?_ ?_ ?_ ?_ ?_
  · rfl
  · exact fun s => s.seqT (SqT.of upd_same)
  · exact fun o H' R s r => ⟨_, rfl, _, rfl, by rw [eV_notnon]; exact r⟩
  · exact fun o H' R s r => ⟨_, rfl, r⟩
  intro H3 s3 h1
  obtain ⟨ns, n1, n2⟩ := ends_min hi hi2
  rw [n1] at h1
  refine ⟨p, ns, .non, rfl, rfl, SqL.of h1, ?_⟩
  rw [n2]
  have s4 : Same H H3 := s2.trans ((same_new ht _).trans s3)
  clear n1 n2 h1 hp s3 ht
  have fin : apart (mLo lo lo2) (mHi hi hi2) = false → ∀ r, H3 r = none → Q (.ref r) (upd H3 r (.tup [eV (mLo lo lo2), eV (mHi hi hi2)])) := fun h r hr => by
    refine q _ _ (s4.trans (same_new hr _)) ?_
    unfold MetAt
    rw [h]
    exact iteF ⟨r, rfl, upd_same⟩
  refine ⟨_, rfl, _, rfl, ?_⟩
  cases e5 : mLo lo lo2 with
  | none =>
    rw [e5] at fin
    exact iteF ⟨_, rfl, _, rfl, (by show 2 ≤ sizeLine; decide), fin rfl⟩
  | some x =>
    refine iteT ⟨_, rfl, _, rfl, ?_⟩
    cases e6 : mHi hi hi2 with
    | none =>
      rw [e5, e6] at fin
      exact iteF ⟨_, rfl, _, rfl, (by show 2 ≤ sizeLine; decide), fin rfl⟩
    | some y =>
      refine iteT ⟨_, rfl, _, rfl, _, _, rfl, rfl, _, rfl, ?_⟩
      rw [e5, e6] at fin
      refine ite2 (fun h => q _ _ s4 ?_) (fun h => ⟨_, rfl, _, rfl, (by show 2 ≤ sizeLine; decide), fin (Bool.eq_false_iff.mpr h)⟩)
      unfold MetAt
      rw [e5, e6]
      exact (if_pos h).symm ▸ rfl

theorem sc_number_of : FnScope ["span", "low", "high"] ["span"] (defScope s_number_of) := ⟨rfl, rfl, rfl, by decide +kernel, rfl, by decide +kernel, by decide +kernel⟩
theorem ok_number_of {f : Addr} {fd : FuncData} (F : Fun K "number_of" "number_of" s_number_of f fd) (B : Bl mg) {t_MOST_LETTERS : Tok} (C_MOST_LETTERS : mg "MOST_LETTERS" = some (.int 8 t_MOST_LETTERS))  : FnOk P w K mg base CX0 1 f fd ["span"] (spNumOf) := by
  refine F.ok sc_number_of (fun vs H Q E h => ?_) (fun cdv A outer s H vs Q E hr h => ?_)
  · obtain ⟨v, lo, hi, rfl, S1, q⟩ := h
    rfl
  obtain ⟨v, lo, hi, rfl, S1, q⟩ := h
  refine ⟨_, (pss_cons (ps_asg (pv 0) (pg_tup rfl (pgs_cons (pg_name (i := 1) sc_number_of.nd rfl (Or.inl rfl)) (pgs_cons (pg_name (i := 2) sc_number_of.nd rfl (Or.inl rfl)) pgs_nil))))
      (pss_cons (ps_if (pt_cmp (pc_notN (pv 1))) (pss_one (ps_ret (pv 1))) pss_nil)
      (pss_cons (ps_if (pt_cmp (pc_notN (pv 2))) (pss_one (ps_ret (pv 2))) pss_nil)
      (pss_one (ps_ret pe_int))))), ?_⟩
  obtain ⟨a, rfl, e1⟩ := S1
  refine ⟨_, rfl, a, _, rfl, SqT.of e1, rfl, _, _, rfl, _, _, rfl, rfl, ?_⟩
  cases lo with
  | some l => exact ⟨_, rfl, _, rfl, iteT ⟨_, rfl, q⟩⟩
  | none =>
    cases hi with
    | none => exact ⟨_, rfl, _, rfl, iteF ⟨_, rfl, _, rfl, iteF q⟩⟩
    | some h => exact ⟨_, rfl, _, rfl, iteF ⟨_, rfl, _, rfl, iteT ⟨_, rfl, q⟩⟩⟩

theorem sc_number_apart : FnScope ["one", "other", "low", "high", "below", "above"] ["one", "other"] (defScope s_number_apart) := ⟨rfl, rfl, rfl, by decide +kernel, rfl, by decide +kernel, by decide +kernel⟩
theorem ok_number_apart {f : Addr} {fd : FuncData} (F : Fun K "number_apart" "number_apart" s_number_apart f fd) (B : Bl mg) {t_MOST_LETTERS : Tok} (C_MOST_LETTERS : mg "MOST_LETTERS" = some (.int 8 t_MOST_LETTERS)) (G_span_shared : FnH P w K mg base 1 "span_shared" ["one", "other"] (spShared)) (G_number_of : FnH P w K mg base 1 "number_of" ["span"] (spNumOf)) : FnOk P w K mg base CX0 2 f fd ["one", "other"] (spApart) := by
  refine F.ok sc_number_apart (fun vs H Q E h => ?_) (fun cdv A outer s H vs Q E hr h => ?_)
  · obtain ⟨v, w', lo, hi, lo2, hi2, rfl, S1, S2, q⟩ := h
    rfl
  obtain ⟨v, w', lo, hi, lo2, hi2, rfl, S1, S2, q⟩ := h
  refine ⟨_, (pss_cons (ps_asg (pv 1) (pg_tup rfl (pgs_cons (pg_name (i := 2) sc_number_apart.nd rfl (Or.inl rfl)) (pgs_cons (pg_name (i := 3) sc_number_apart.nd rfl (Or.inl rfl)) pgs_nil))))
      (pss_cons (ps_if (pt_cmp (pc_notN (pv 2))) (pss_cons (ps_set (i := 4) sc_number_apart.nd rfl (Or.inl rfl) (pe_fn G_span_shared (hr.mono (by decide)) rfl (pa_cons (pv 0) (pa_cons (pe_tup (pa_cons pe_non (pa_cons (pe_op op_sub (pv 2) pe_int) pa_nil))) pa_nil))))
      (pss_one (ps_if (pt_cmp (pc_notN (pv 4))) (pss_one (ps_ret (pe_fn G_number_of (hr.mono (by decide)) rfl (pa_cons (pv 4) pa_nil)))) pss_nil))) pss_nil)
      (pss_cons (ps_if (pt_cmp (pc_notN (pv 3))) (pss_cons (ps_set (i := 5) sc_number_apart.nd rfl (Or.inl rfl) (pe_fn G_span_shared (hr.mono (by decide)) rfl (pa_cons (pv 0) (pa_cons (pe_tup (pa_cons (pe_op op_add (pv 3) pe_int) (pa_cons pe_non pa_nil))) pa_nil))))
      (pss_one (ps_if (pt_cmp (pc_notN (pv 5))) (pss_one (ps_ret (pe_fn G_number_of (hr.mono (by decide)) rfl (pa_cons (pv 5) pa_nil)))) pss_nil))) pss_nil)
      (pss_one (ps_ret pe_non))))), ?_⟩
  have q' : ∀ r, numApart lo hi lo2 hi2 = r → ∀ H', Same H H' → Q (eV r) H' := fun r e H' s => by rw [← e]; exact q H' s
  obtain ⟨c, rfl, e2⟩ := S2
  refine ⟨_, rfl, c, _, rfl, SqT.of e2, rfl, _, _, rfl, _, _, rfl, rfl, ?_⟩
  cases lo2 with
  | none =>
    refine ⟨_, rfl, _, rfl, iteF ?_⟩
    have hb : apBelow lo hi none = none := rfl
    have t1 : Same H H := Same.refl _
    cases hi2 with
    | none =>
      have e0 : numApart lo hi none none = none := na_none hb
      exact ⟨_, rfl, _, rfl, iteF (q' _ e0 _ t1)⟩
    | some h =>
      refine ⟨_, rfl, _, rfl, iteT ⟨_, rfl, _, rfl, _, _, rfl, rfl, (by show 2 ≤ sizeLine; decide), fun u hu => ?_⟩⟩
      have su := same_new hu (.tup [V.int (h + 1), V.non])
      refine ⟨v, .ref u, lo, hi, some (h + 1), none, rfl, S1.same (t1.trans su), ⟨u, rfl, upd_same⟩, fun v3 H3 s3 m3 => ?_⟩
      have t3 := t1.trans (su.trans s3)
      unfold MetAt at m3
      rw [mHi_none] at m3
      by_cases ap : apart (mLo lo (some (h + 1))) hi = true
      · rw [if_pos ap] at m3
        subst m3
        have e0 : numApart lo hi none (some h) = none := (na_none hb).trans (apA_T ap)
        exact ⟨_, rfl, _, rfl, iteF (q' _ e0 _ t3)⟩
      · rw [if_neg ap] at m3
        have e0 : numApart lo hi none (some h) = some (numOf (mLo lo (some (h + 1))) hi) := (na_none hb).trans (apA_F ap)
        obtain ⟨b3, rfl, e3⟩ := m3
        exact ⟨_, rfl, _, rfl, iteT ⟨_, rfl, _, _, _, rfl, ⟨b3, rfl, e3⟩, q' _ e0 _ t3⟩⟩
  | some l =>
    refine ⟨_, rfl, _, rfl, iteT ⟨_, rfl, _, rfl, _, _, rfl, rfl, (by show 2 ≤ sizeLine; decide), fun t ht => ?_⟩⟩
    have st := same_new ht (.tup [V.non, V.int (l - 1)])
    refine ⟨v, .ref t, lo, hi, none, some (l - 1), rfl, S1.same st, ⟨t, rfl, upd_same⟩, fun v2 H2 s2 m2 => ?_⟩
    have t1 : Same H H2 := st.trans s2
    unfold MetAt at m2
    rw [mLo_none] at m2
    by_cases ap0 : apart lo (mHi hi (some (l - 1))) = true
    · rw [if_pos ap0] at m2
      subst m2
      have hb : apBelow lo hi (some l) = none := apB_T ap0
      refine ⟨_, rfl, _, rfl, iteF ?_⟩
      cases hi2 with
      | none =>
        have e0 : numApart lo hi (some l) none = none := na_none hb
        exact ⟨_, rfl, _, rfl, iteF (q' _ e0 _ t1)⟩
      | some h =>
        refine ⟨_, rfl, _, rfl, iteT ⟨_, rfl, _, rfl, _, _, rfl, rfl, (by show 2 ≤ sizeLine; decide), fun u hu => ?_⟩⟩
        have su := same_new hu (.tup [V.int (h + 1), V.non])
        refine ⟨v, .ref u, lo, hi, some (h + 1), none, rfl, S1.same (t1.trans su), ⟨u, rfl, upd_same⟩, fun v3 H3 s3 m3 => ?_⟩
        have t3 := t1.trans (su.trans s3)
        unfold MetAt at m3
        rw [mHi_none] at m3
        by_cases ap : apart (mLo lo (some (h + 1))) hi = true
        · rw [if_pos ap] at m3
          subst m3
          have e0 : numApart lo hi (some l) (some h) = none := (na_none hb).trans (apA_T ap)
          exact ⟨_, rfl, _, rfl, iteF (q' _ e0 _ t3)⟩
        · rw [if_neg ap] at m3
          have e0 : numApart lo hi (some l) (some h) = some (numOf (mLo lo (some (h + 1))) hi) := (na_none hb).trans (apA_F ap)
          obtain ⟨b3, rfl, e3⟩ := m3
          exact ⟨_, rfl, _, rfl, iteT ⟨_, rfl, _, _, _, rfl, ⟨b3, rfl, e3⟩, q' _ e0 _ t3⟩⟩
    · rw [if_neg ap0] at m2
      have e0 : numApart lo hi (some l) hi2 = some (numOf lo (mHi hi (some (l - 1)))) := na_some (apB_F ap0)
      obtain ⟨b2, rfl, e3⟩ := m2
      exact ⟨_, rfl, _, rfl, iteT ⟨_, rfl, _, _, _, rfl, ⟨b2, rfl, e3⟩, q' _ e0 _ t1⟩⟩

theorem sc_is_field : FnScope ["thing"] ["thing"] (defScope s_is_field) := ⟨rfl, rfl, rfl, by decide +kernel, rfl, by decide +kernel, by decide +kernel⟩
theorem ok_is_field {f : Addr} {fd : FuncData} (F : Fun K "is_field" "is_field" s_is_field f fd) (B : Bl mg) {t_MOST_LETTERS : Tok} (C_MOST_LETTERS : mg "MOST_LETTERS" = some (.int 8 t_MOST_LETTERS))  : FnOk P w K mg base CX0 1 f fd ["thing"] (spField) := by
  refine F.ok sc_is_field (fun vs H Q E h => ?_) (fun cdv A outer s H vs Q E hr h => ?_)
  · obtain ⟨x, rfl, F1, q⟩ := h
    rfl
  obtain ⟨x, rfl, F1, q⟩ := h
  refine ⟨_, (pss_cons (ps_if (PW.pt (pw_or (pt_not (pt_val (pe_callB (call_isinst (n := "")) rfl B.isinstance_ bt_isinstance (pa_cons (pv 0) (pa_cons (pe_bltn (v := .ty "str") rfl B.str_ bt_str rfl) pa_nil))))) (pw_or1 (pt_not (pt_chain op_le op_le pe_int (pe_callB call_len_str rfl B.len_ bt_len (pa_cons (pv 0) pa_nil)) (pe_glob (v := .int 8) rfl C_MOST_LETTERS ⟨_, rfl⟩)))))) (pss_one (ps_ret pe_bl)) pss_nil)
      (pss_one (ps_ret (pe_callB (call_all rfl) rfl B.all_ bt_all (pa_cons (pe_lc (N' := ["sign"]) (js := [none]) rfl (capOk (N := ["thing"]) (outer := defScope s_is_field) (by decide +kernel)) (pi_str (pv 0)) (fun _ _ _ _ _ => (pg_name (i := 0) (show List.Nodup (["sign"] : List Str) by decide +kernel) rfl (Or.inl rfl))) (fun _ _ _ _ _ => pifs_nil) (fun _ _ _ _ _ => (pe_chain op_le_str op_le_str pe_str (pv 0) pe_str))) pa_nil))))), ?_⟩
  have l1 : (1 : Int) ≤ (x.length : Int) := by have := F1.one; omega
  have l8 : (x.length : Int) ≤ 8 := by have := F1.eight; omega
  refine ⟨_, rfl, _, "str", "str", true, rfl, .str x, rfl, _, rfl, iteF ⟨_, rfl, x, rfl, small (by have := F1.eight; omega), _, _, rfl, rfl, _, rfl, ?_⟩⟩
  rw [decide_eq_true l1]
  refine iteT ⟨_, _, rfl, rfl, _, rfl, ?_⟩
  rw [decide_eq_true l8]
  refine iteF ⟨_, rfl, x, rfl, fun p hp => ?_⟩
  have s0 := same_new hp (.lst [])
  have sl : (L2.signs x).length = x.length := by unfold L2.signs; rw [List.length_map, Array.length_toList]; rfl
  refine lc_itv (xs := L2.signs x) (fun i σ' ys H' => (∃ v, σ' = [v]) ∧ Same H H' ∧ H' p = some (.lst ys) ∧ ys = List.replicate i (V.bl true)) ⟨⟨none, rfl⟩, s0, upd_same, rfl⟩ ?_ ?_ ?_
  · rintro i σ' ys H' hi ⟨_, _, h1, h2⟩
    refine ⟨h1, ?_⟩
    rw [h2, List.length_replicate]
    have := F1.eight
    exact small1000 (by omega)
  · rintro i y σ' ys H' N hy ⟨⟨v, rfl⟩, s, h1, h2⟩ hN
    unfold L2.signs at hy
    rw [List.getElem?_map] at hy
    cases hc : x.cps.toList[i]? with
    | none => rw [hc] at hy; cases hy
    | some c =>
      rw [hc] at hy
      obtain rfl : V.str ⟨#[c]⟩ = y := Option.some.inj hy
      have ok := F1.all c (List.mem_of_getElem? hc)
      refine ⟨_, rfl, _, _, rfl, rfl, _, rfl, ?_⟩
      rw [ge_a ok]
      refine iteT ⟨_, _, rfl, rfl, ?_⟩
      rw [le_z ok]
      refine ⟨h1, hN _ _ _ ⟨⟨_, rfl⟩, ?_, upd_same, by rw [h2]; exact List.replicate_succ'.symm⟩⟩
      intro b o q'
      have : b ≠ p := fun z => by rw [z, hp] at q'; cases q'
      rw [upd_ne this]
      exact s b o q'
  · rintro σ' ys H' ⟨_, s, h1, h2⟩
    refine ⟨p, List.replicate (L2.signs x).length true, rfl, SqL.of (by rw [h1, h2, List.map_replicate]), ?_⟩
    have : (List.replicate (L2.signs x).length true).all id = true := by simp
    rw [this]
    exact q H' s

theorem sc_is_wish_part : FnScope ["thing", "field", "low", "high"] ["thing"] (defScope s_is_wish_part) := ⟨rfl, rfl, rfl, by decide +kernel, rfl, by decide +kernel, by decide +kernel⟩
theorem ok_is_wish_part {f : Addr} {fd : FuncData} (F : Fun K "is_wish_part" "is_wish_part" s_is_wish_part f fd) (B : Bl mg) {t_MOST_LETTERS : Tok} (C_MOST_LETTERS : mg "MOST_LETTERS" = some (.int 8 t_MOST_LETTERS)) (G_is_field : FnH P w K mg base 1 "is_field" ["thing"] (spField)) (G_is_span : FnH P w K mg base 3 "is_span" ["thing"] (spIsSpan K)) : FnOk P w K mg base CX0 4 f fd ["thing"] (spWishPart) := by
  refine F.ok sc_is_wish_part (fun vs H Q E h => ?_) (fun cdv A outer s H vs Q E hr h => ?_)
  · obtain ⟨p, f, lo, hi, rfl, hp, F1, hle, q⟩ := h
    rfl
  obtain ⟨p, f, lo, hi, rfl, hp, F1, hle, q⟩ := h
  refine ⟨_, (pss_cons (ps_if (PW.pt (pw_or (pt_not (pt_val (pe_callB (call_isinst (n := "")) rfl B.isinstance_ bt_isinstance (pa_cons (pv 0) (pa_cons (pe_bltn (v := .ty "tuple") rfl B.tuple_ bt_tuple rfl) pa_nil))))) (pw_or1 (pt_cmpR op_ne (pe_callB call_len_seq rfl B.len_ bt_len (pa_cons (pv 0) pa_nil)) pe_int (nomark _))))) (pss_one (ps_ret pe_bl)) pss_nil)
      (pss_cons (ps_asg (pv 0) (pg_tup rfl (pgs_cons (pg_name (i := 1) sc_is_wish_part.nd rfl (Or.inl rfl)) (pgs_cons (pg_name (i := 2) sc_is_wish_part.nd rfl (Or.inl rfl)) (pgs_cons (pg_name (i := 3) sc_is_wish_part.nd rfl (Or.inl rfl)) pgs_nil)))))
      (pss_one (ps_ret (pe_and (pe_fn G_is_field (hr.mono (by decide)) rfl (pa_cons (pv 1) pa_nil)) (pe_one (pe_fn G_is_span (hr.mono (by decide)) rfl (pa_cons (pe_tup (pa_cons (pv 2) (pa_cons (pv 3) pa_nil))) pa_nil)))))))), ?_⟩
  refine ⟨_, rfl, _, "tuple", "tuple", true, rfl, .tup hp, rfl, _, rfl, iteF ⟨_, rfl, p, _, rfl, .inr (SqT.of hp), rfl, _, rfl, ?_⟩⟩
  refine iteF ⟨_, rfl, p, _, rfl, SqT.of hp, rfl, _, _, rfl, _, _, rfl, _, _, rfl, rfl, ?_⟩
  refine ⟨_, rfl, f, rfl, F1, fun H1 s1 => ⟨_, rfl, iteT ⟨_, rfl, _, rfl, (by show 2 ≤ sizeLine; decide), fun t ht => ?_⟩⟩⟩
  have S : SpanAt (upd H1 t (.tup [eV lo, eV hi])) (.ref t) lo hi := ⟨t, rfl, upd_same⟩
  refine ⟨.ref t, "tuple", rfl, S.ty.1, S.ty.2, ?_⟩
  rw [isSpan_of S, hle]
  exact q _ (s1.trans (same_new ht _))

theorem sc_is_piece_part : FnScope ["thing", "field", "number"] ["thing"] (defScope s_is_piece_part) := ⟨rfl, rfl, rfl, by decide +kernel, rfl, by decide +kernel, by decide +kernel⟩
theorem ok_is_piece_part {f : Addr} {fd : FuncData} (F : Fun K "is_piece_part" "is_piece_part" s_is_piece_part f fd) (B : Bl mg) {t_MOST_LETTERS : Tok} (C_MOST_LETTERS : mg "MOST_LETTERS" = some (.int 8 t_MOST_LETTERS)) (G_is_field : FnH P w K mg base 1 "is_field" ["thing"] (spField)) (G_is_whole : FnH P w K mg base 1 "is_whole" ["thing"] (spWhole K)) : FnOk P w K mg base CX0 2 f fd ["thing"] (spPiecePart) := by
  refine F.ok sc_is_piece_part (fun vs H Q E h => ?_) (fun cdv A outer s H vs Q E hr h => ?_)
  · obtain ⟨p, f, n, rfl, hp, F1, q⟩ := h
    rfl
  obtain ⟨p, f, n, rfl, hp, F1, q⟩ := h
  refine ⟨_, (pss_cons (ps_if (PW.pt (pw_or (pt_not (pt_val (pe_callB (call_isinst (n := "")) rfl B.isinstance_ bt_isinstance (pa_cons (pv 0) (pa_cons (pe_bltn (v := .ty "tuple") rfl B.tuple_ bt_tuple rfl) pa_nil))))) (pw_or1 (pt_cmpR op_ne (pe_callB call_len_seq rfl B.len_ bt_len (pa_cons (pv 0) pa_nil)) pe_int (nomark _))))) (pss_one (ps_ret pe_bl)) pss_nil)
      (pss_cons (ps_asg (pv 0) (pg_tup rfl (pgs_cons (pg_name (i := 1) sc_is_piece_part.nd rfl (Or.inl rfl)) (pgs_cons (pg_name (i := 2) sc_is_piece_part.nd rfl (Or.inl rfl)) pgs_nil))))
      (pss_one (ps_ret (pe_and (pe_fn G_is_field (hr.mono (by decide)) rfl (pa_cons (pv 1) pa_nil)) (pe_one (pe_fn G_is_whole (hr.mono (by decide)) rfl (pa_cons (pv 2) pa_nil)))))))), ?_⟩
  refine ⟨_, rfl, _, "tuple", "tuple", true, rfl, .tup hp, rfl, _, rfl, iteF ⟨_, rfl, p, _, rfl, .inr (SqT.of hp), rfl, _, rfl, ?_⟩⟩
  refine iteF ⟨_, rfl, p, _, rfl, SqT.of hp, rfl, _, _, rfl, _, _, rfl, rfl, ?_⟩
  exact ⟨_, rfl, f, rfl, F1, fun H1 s1 => ⟨_, rfl, iteT ⟨_, rfl, .int n, "int", rfl, .int n, q _ s1⟩⟩⟩

theorem sc_fields_ascend : FnScope ["parts"] ["parts"] (defScope s_fields_ascend) := ⟨rfl, rfl, rfl, by decide +kernel, rfl, by decide +kernel, by decide +kernel⟩
theorem ok_fields_ascend {f : Addr} {fd : FuncData} (F : Fun K "fields_ascend" "fields_ascend" s_fields_ascend f fd) (B : Bl mg) {t_MOST_LETTERS : Tok} (C_MOST_LETTERS : mg "MOST_LETTERS" = some (.int 8 t_MOST_LETTERS))  : FnOk P w K mg base CX0 1 f fd ["parts"] (spAscend) := by
  refine F.ok sc_fields_ascend (fun vs H Q E h => ?_) (fun cdv A outer s H vs Q E hr h => ?_)
  · obtain ⟨a, ps, rfl, ha, hl, hp, hlt, q⟩ := h
    rfl
  obtain ⟨a, ps, rfl, ha, hl, hp, hlt, q⟩ := h
  refine ⟨_, (pss_one (ps_ret (pe_callB (call_all rfl) rfl B.all_ bt_all (pa_cons (pe_lc (N' := ["ahead", "behind"]) (js := [none, none]) rfl (capOk (N := ["parts"]) (outer := defScope s_fields_ascend) (by decide +kernel)) (pi_zip rfl B.zip_ (pa_cons (pv 0) (pa_cons (pe_slice sl_tupW (pv 0) (po_some pe_int) po_none) pa_nil))) (fun _ _ _ _ _ => (pg_tupK K rfl (n := 2) rfl (pgs_cons (pg_name (i := 0) (show List.Nodup (["ahead", "behind"] : List Str) by decide +kernel) rfl (Or.inl rfl)) (pgs_cons (pg_name (i := 1) (show List.Nodup (["ahead", "behind"] : List Str) by decide +kernel) rfl (Or.inl rfl)) pgs_nil)))) (fun _ _ _ _ _ => pifs_nil) (fun _ _ _ _ _ => (pe_cmpR op_lt_str (pe_ix (ix_tupK K rfl) (pv 0) pe_int (fun _ _ => rfl)) (pe_ix (ix_tupK K rfl) (pv 1) pe_int (fun _ _ => rfl)) (nomark _)))) pa_nil)))), ?_⟩
  refine ⟨_, rfl, _, rfl, _, rfl, ?_⟩
  dsimp only [tNoPart]
  refine sl_tail (SqT.of ha) fun p1 H1 s1 q1 => ?_
  refine ⟨a, p1, rfl, ⟨_, s1.seqT (SqT.of ha)⟩, ⟨_, q1⟩, fun p hp' => ?_⟩
  have s0 := same_new hp' (.lst [])
  have ld : ((ps.map fun p => V.ref p.1).drop 1).length = ps.length - 1 := by rw [List.length_drop, List.length_map]
  refine lc_zip (n := ps.length - 1) (xs := ps.map fun p => V.ref p.1) (ys := (ps.map fun p => V.ref p.1).drop 1) (by rw [List.length_map]; omega) (by rw [ld]; exact Nat.le_refl _) (.inr (by rw [ld]; exact Nat.le_refl _))
    (fun i σ' ys H' => (∃ v w, σ' = [v, w]) ∧ Same H1 H' ∧ H' p = some (.lst ys) ∧ ys = List.replicate i (V.bl true)) ⟨⟨none, none, rfl⟩, s0, upd_same, rfl⟩ ?_ ?_ ?_
  · rintro i σ' zs H' hi ⟨_, s, h1, h2⟩
    refine ⟨(s1.trans s).seqT (SqT.of ha), s.seqT q1, h1, ?_⟩
    rw [h2, List.length_replicate]
    exact small1000 (by omega)
  · rintro i x y σ' zs H' r N hx hy hr' ⟨⟨v, w', rfl⟩, s, h1, h2⟩ hN
    rw [List.getElem?_map] at hx
    rw [List.getElem?_drop, List.getElem?_map, Nat.add_comm] at hy
    cases e1 : ps[i]? with
    | none => rw [e1] at hx; cases hx
    | some P1 =>
      cases e2 : ps[i + 1]? with
      | none => rw [e2] at hy; cases hy
      | some P2 =>
        rw [e1] at hx
        rw [e2] at hy
        obtain rfl : V.ref P1.1 = x := Option.some.inj hx
        obtain rfl : V.ref P2.1 = y := Option.some.inj hy
        have s3 := same_new hr' (.tup [V.ref P1.1, V.ref P2.1])
        have t3 := (s1.trans s).trans s3
        have f1 := t3 _ _ (hp P1 (List.mem_of_getElem? e1))
        have f2 := t3 _ _ (hp P2 (List.mem_of_getElem? e2))
        refine ⟨r, _, rfl, SqT.of upd_same, rfl, _, _, rfl, _, _, rfl, rfl, ?_⟩
        refine ⟨_, rfl, P1.1, _, 0, _, rfl, rfl, SqT.of f1, at0, _, rfl, P2.1, _, 0, _, rfl, rfl, SqT.of f2, at0, _, _, rfl, rfl, ?_⟩
        rw [decide_eq_true (show P1.2.1.cps.toList < P2.2.1.cps.toList from hlt i P1 P2 e1 e2)]
        refine ⟨s3 _ _ h1, hN _ _ _ ⟨⟨_, _, rfl⟩, ?_, upd_same, by rw [h2]; exact List.replicate_succ'.symm⟩⟩
        intro b o q'
        have : b ≠ p := fun z => by rw [z, hp'] at q'; cases q'
        rw [upd_ne this]
        exact s3 _ _ (s b o q')
  · rintro σ' zs H' ⟨_, s, h1, h2⟩
    refine ⟨p, List.replicate (ps.length - 1) true, rfl, SqL.of (by rw [h1, h2, List.map_replicate]), ?_⟩
    have : (List.replicate (ps.length - 1) true).all id = true := by simp
    rw [this]
    exact q H' (s1.trans s)

theorem sc_is_wish : FnScope ["thing"] ["thing"] (defScope s_is_wish) := ⟨rfl, rfl, rfl, by decide +kernel, rfl, by decide +kernel, by decide +kernel⟩
theorem ok_is_wish {f : Addr} {fd : FuncData} (F : Fun K "is_wish" "is_wish" s_is_wish f fd) (B : Bl mg) {t_MOST_LETTERS : Tok} (C_MOST_LETTERS : mg "MOST_LETTERS" = some (.int 8 t_MOST_LETTERS)) (G_fields_ascend : FnH P w K mg base 1 "fields_ascend" ["parts"] (spAscend)) (G_is_wish_part : FnH P w K mg base 4 "is_wish_part" ["thing"] (spWishPart)) : FnOk P w K mg base CX0 5 f fd ["thing"] (spIsWish) := by
  refine F.ok sc_is_wish (fun vs H Q E h => ?_) (fun cdv A outer s H vs Q E hr h => ?_)
  · obtain ⟨a, w', rfl, hw, wok, q⟩ := h
    rfl
  obtain ⟨a, w', rfl, hw, wok, q⟩ := h
  refine ⟨_, (pss_cons (ps_if (pt_not (pt_val (pe_callB (call_isinst (n := "")) rfl B.isinstance_ bt_isinstance (pa_cons (pv 0) (pa_cons (pe_bltn (v := .ty "tuple") rfl B.tuple_ bt_tuple rfl) pa_nil))))) (pss_one (ps_ret pe_bl)) pss_nil)
      (pss_one (ps_ret (pe_and (pe_callB (call_all rfl) rfl B.all_ bt_all (pa_cons (pe_lc (N' := ["part"]) (js := [none]) rfl (capOk (N := ["thing"]) (outer := defScope s_is_wish) (by decide +kernel)) (pi_tup (pv 0)) (fun _ _ _ _ _ => (pg_name (i := 0) (show List.Nodup (["part"] : List Str) by decide +kernel) rfl (Or.inl rfl))) (fun _ _ _ _ _ => pifs_nil) (fun _ _ _ _ _ => (pe_fn G_is_wish_part (hr.mono (by decide)) rfl (pa_cons (pv 0) pa_nil)))) pa_nil)) (pe_one (pe_fn G_fields_ascend (hr.mono (by decide)) rfl (pa_cons (pv 0) pa_nil))))))), ?_⟩
  obtain ⟨ps, rfl, hA, hP⟩ := hw
  have ll : ps.length ≤ 100 := by have := wok.len; rw [List.length_map] at this; exact this
  refine ⟨_, rfl, _, "tuple", "tuple", true, rfl, .tup hA, rfl, _, rfl, iteF ?_⟩
  refine ⟨_, rfl, a, rfl, ⟨_, SqT.of hA⟩, fun p hp => ?_⟩
  refine lc_tup (xs := ps.map fun p => V.ref p.1) (fun i σ' ys H' => (∃ v, σ' = [v]) ∧ Same H H' ∧ H' p = some (.lst ys) ∧ ys = List.replicate i (V.bl true)) ⟨⟨none, rfl⟩, same_new hp _, upd_same, rfl⟩ ?_ ?_ ?_
  · rintro i σ' ys H' hi ⟨_, s, h1, h2⟩
    refine ⟨s.seqT (SqT.of hA), h1, ?_⟩
    rw [h2, List.length_replicate]
    rw [List.length_map] at hi
    exact small1000 (by omega)
  · rintro i x σ' ys H' N hx ⟨⟨v, rfl⟩, s, h1, h2⟩ hN
    rw [List.getElem?_map] at hx
    cases e1 : ps[i]? with
    | none => rw [e1] at hx; cases hx
    | some P1 =>
      rw [e1] at hx
      obtain rfl : V.ref P1.1 = x := Option.some.inj hx
      have hm := List.mem_of_getElem? e1
      obtain ⟨o1, o2⟩ := wok.ok P1.2 (List.mem_map_of_mem hm)
      refine ⟨_, rfl, P1.1, P1.2.1, P1.2.2.1, P1.2.2.2, rfl, s _ _ (hP P1 hm), o1, o2, fun H2 s2 => ?_⟩
      refine ⟨s2 _ _ h1, hN _ _ _ ⟨⟨_, rfl⟩, upd_off (s.trans s2) hp, upd_same, by rw [h2]; exact List.replicate_succ'.symm⟩⟩
  · rintro σ' ys H' ⟨_, s, h1, h2⟩
    refine ⟨p, List.replicate (ps.map fun p => V.ref p.1).length true, rfl, SqL.of (by rw [h1, h2, List.map_replicate]), _, rfl, ?_⟩
    rw [show (List.replicate (ps.map fun p => V.ref p.1).length true).all id = true by simp]
    refine iteT ⟨_, rfl, a, ps.map (fun p => (p.1, p.2.1, [eV p.2.2.1, eV p.2.2.2])), rfl, ?_, by rw [List.length_map]; exact ll, ?_, ?_, fun H2 s2 => q H2 (s.trans s2)⟩
    · rw [List.map_map]; exact s _ _ hA
    · intro r hr
      rw [List.mem_map] at hr
      obtain ⟨P1, hm, rfl⟩ := hr
      exact s _ _ (hP P1 hm)
    · intro i r1 r2 h3 h4
      rw [List.getElem?_map] at h3 h4
      cases e1 : ps[i]? with
      | none => rw [e1] at h3; cases h3
      | some P1 =>
        cases e2 : ps[i + 1]? with
        | none => rw [e2] at h4; cases h4
        | some P2 =>
          rw [e1] at h3
          rw [e2] at h4
          obtain rfl := Option.some.inj h3
          obtain rfl := Option.some.inj h4
          have l2 := (List.getElem?_eq_some_iff.mp e2).1
          have := List.pairwise_iff_getElem.mp wok.asc i (i + 1) (by simp; omega) (by simp; omega) (by omega)
          simp only [List.getElem_map] at this
          rw [(List.getElem?_eq_some_iff.mp e1).2, (List.getElem?_eq_some_iff.mp e2).2] at this
          exact this

theorem sc_is_piece : FnScope ["thing"] ["thing"] (defScope s_is_piece) := ⟨rfl, rfl, rfl, by decide +kernel, rfl, by decide +kernel, by decide +kernel⟩
theorem ok_is_piece {f : Addr} {fd : FuncData} (F : Fun K "is_piece" "is_piece" s_is_piece f fd) (B : Bl mg) {t_MOST_LETTERS : Tok} (C_MOST_LETTERS : mg "MOST_LETTERS" = some (.int 8 t_MOST_LETTERS)) (G_fields_ascend : FnH P w K mg base 1 "fields_ascend" ["parts"] (spAscend)) (G_is_piece_part : FnH P w K mg base 2 "is_piece_part" ["thing"] (spPiecePart)) : FnOk P w K mg base CX0 3 f fd ["thing"] (spIsPiece) := by
  refine F.ok sc_is_piece (fun vs H Q E h => ?_) (fun cdv A outer s H vs Q E hr h => ?_)
  · obtain ⟨a, w', rfl, hw, wok, q⟩ := h
    rfl
  obtain ⟨a, w', rfl, hw, wok, q⟩ := h
  refine ⟨_, (pss_cons (ps_if (pt_not (pt_val (pe_callB (call_isinst (n := "")) rfl B.isinstance_ bt_isinstance (pa_cons (pv 0) (pa_cons (pe_bltn (v := .ty "tuple") rfl B.tuple_ bt_tuple rfl) pa_nil))))) (pss_one (ps_ret pe_bl)) pss_nil)
      (pss_one (ps_ret (pe_and (pe_callB (call_all rfl) rfl B.all_ bt_all (pa_cons (pe_lc (N' := ["part"]) (js := [none]) rfl (capOk (N := ["thing"]) (outer := defScope s_is_piece) (by decide +kernel)) (pi_tup (pv 0)) (fun _ _ _ _ _ => (pg_name (i := 0) (show List.Nodup (["part"] : List Str) by decide +kernel) rfl (Or.inl rfl))) (fun _ _ _ _ _ => pifs_nil) (fun _ _ _ _ _ => (pe_fn G_is_piece_part (hr.mono (by decide)) rfl (pa_cons (pv 0) pa_nil)))) pa_nil)) (pe_one (pe_fn G_fields_ascend (hr.mono (by decide)) rfl (pa_cons (pv 0) pa_nil))))))), ?_⟩
  obtain ⟨ps, rfl, hA, hP⟩ := hw
  have ll : ps.length ≤ 100 := by have := wok.len; rw [List.length_map] at this; exact this
  refine ⟨_, rfl, _, "tuple", "tuple", true, rfl, .tup hA, rfl, _, rfl, iteF ?_⟩
  refine ⟨_, rfl, a, rfl, ⟨_, SqT.of hA⟩, fun p hp => ?_⟩
  refine lc_tup (xs := ps.map fun p => V.ref p.1) (fun i σ' ys H' => (∃ v, σ' = [v]) ∧ Same H H' ∧ H' p = some (.lst ys) ∧ ys = List.replicate i (V.bl true)) ⟨⟨none, rfl⟩, same_new hp _, upd_same, rfl⟩ ?_ ?_ ?_
  · rintro i σ' ys H' hi ⟨_, s, h1, h2⟩
    refine ⟨s.seqT (SqT.of hA), h1, ?_⟩
    rw [h2, List.length_replicate]
    rw [List.length_map] at hi
    exact small1000 (by omega)
  · rintro i x σ' ys H' N hx ⟨⟨v, rfl⟩, s, h1, h2⟩ hN
    rw [List.getElem?_map] at hx
    cases e1 : ps[i]? with
    | none => rw [e1] at hx; cases hx
    | some P1 =>
      rw [e1] at hx
      obtain rfl : V.ref P1.1 = x := Option.some.inj hx
      have hm := List.mem_of_getElem? e1
      have o1 := wok.ok P1.2 (List.mem_map_of_mem hm)
      refine ⟨_, rfl, P1.1, P1.2.1, P1.2.2, rfl, s _ _ (hP P1 hm), o1, fun H2 s2 => ?_⟩
      refine ⟨s2 _ _ h1, hN _ _ _ ⟨⟨_, rfl⟩, upd_off (s.trans s2) hp, upd_same, by rw [h2]; exact List.replicate_succ'.symm⟩⟩
  · rintro σ' ys H' ⟨_, s, h1, h2⟩
    refine ⟨p, List.replicate (ps.map fun p => V.ref p.1).length true, rfl, SqL.of (by rw [h1, h2, List.map_replicate]), _, rfl, ?_⟩
    rw [show (List.replicate (ps.map fun p => V.ref p.1).length true).all id = true by simp]
    refine iteT ⟨_, rfl, a, ps.map (fun p => (p.1, p.2.1, [V.int p.2.2])), rfl, ?_, by rw [List.length_map]; exact ll, ?_, ?_, fun H2 s2 => q H2 (s.trans s2)⟩
    · rw [List.map_map]; exact s _ _ hA
    · intro r hr
      rw [List.mem_map] at hr
      obtain ⟨P1, hm, rfl⟩ := hr
      exact s _ _ (hP P1 hm)
    · intro i r1 r2 h3 h4
      rw [List.getElem?_map] at h3 h4
      cases e1 : ps[i]? with
      | none => rw [e1] at h3; cases h3
      | some P1 =>
        cases e2 : ps[i + 1]? with
        | none => rw [e2] at h4; cases h4
        | some P2 =>
          rw [e1] at h3
          rw [e2] at h4
          obtain rfl := Option.some.inj h3
          obtain rfl := Option.some.inj h4
          have l2 := (List.getElem?_eq_some_iff.mp e2).1
          have := List.pairwise_iff_getElem.mp wok.asc i (i + 1) (by simp; omega) (by simp; omega) (by omega)
          simp only [List.getElem_map] at this
          rw [(List.getElem?_eq_some_iff.mp e1).2, (List.getElem?_eq_some_iff.mp e2).2] at this
          exact this

theorem sc_check_wish : FnScope ["thing"] ["thing"] (defScope s_check_wish) := ⟨rfl, rfl, rfl, by decide +kernel, rfl, by decide +kernel, by decide +kernel⟩
theorem ok_check_wish {f : Addr} {fd : FuncData} (F : Fun K "check_wish" "check_wish" s_check_wish f fd) (B : Bl mg) {t_MOST_LETTERS : Tok} (C_MOST_LETTERS : mg "MOST_LETTERS" = some (.int 8 t_MOST_LETTERS)) (G_is_wish : FnH P w K mg base 5 "is_wish" ["thing"] (spIsWish)) : FnOk P w K mg base CX0 6 f fd ["thing"] (spChkWish) := by
  refine F.ok sc_check_wish (fun vs H Q E h => ?_) (fun cdv A outer s H vs Q E hr h => ?_)
  · obtain ⟨a, w', rfl, hw, wok, q⟩ := h
    rfl
  obtain ⟨a, w', rfl, hw, wok, q⟩ := h
  refine ⟨_, (pss_one (ps_if (pt_not (pt_val (pe_fn G_is_wish (hr.mono (by decide)) rfl (pa_cons (pv 0) pa_nil)))) (pss_one ps_never) pss_nil)), ?_⟩
  exact ⟨_, rfl, a, w', rfl, hw, wok, fun H' s => ⟨_, rfl, iteF (q H' s)⟩⟩

theorem sc_check_piece : FnScope ["thing"] ["thing"] (defScope s_check_piece) := ⟨rfl, rfl, rfl, by decide +kernel, rfl, by decide +kernel, by decide +kernel⟩
theorem ok_check_piece {f : Addr} {fd : FuncData} (F : Fun K "check_piece" "check_piece" s_check_piece f fd) (B : Bl mg) {t_MOST_LETTERS : Tok} (C_MOST_LETTERS : mg "MOST_LETTERS" = some (.int 8 t_MOST_LETTERS)) (G_is_piece : FnH P w K mg base 3 "is_piece" ["thing"] (spIsPiece)) : FnOk P w K mg base CX0 4 f fd ["thing"] (spChkPiece) := by
  refine F.ok sc_check_piece (fun vs H Q E h => ?_) (fun cdv A outer s H vs Q E hr h => ?_)
  · obtain ⟨a, w', rfl, hw, wok, q⟩ := h
    rfl
  obtain ⟨a, w', rfl, hw, wok, q⟩ := h
  refine ⟨_, (pss_one (ps_if (pt_not (pt_val (pe_fn G_is_piece (hr.mono (by decide)) rfl (pa_cons (pv 0) pa_nil)))) (pss_one ps_never) pss_nil)), ?_⟩
  exact ⟨_, rfl, a, w', rfl, hw, wok, fun H' s => ⟨_, rfl, iteF (q H' s)⟩⟩

theorem sc_wish_takes : FnScope ["wish", "piece", "numbers", "field", "low", "high"] ["wish", "piece"] (defScope s_wish_takes) := ⟨rfl, rfl, rfl, by decide +kernel, rfl, by decide +kernel, by decide +kernel⟩
theorem ok_wish_takes {f : Addr} {fd : FuncData} (F : Fun K "wish_takes" "wish_takes" s_wish_takes f fd) (B : Bl mg) {t_MOST_LETTERS : Tok} (C_MOST_LETTERS : mg "MOST_LETTERS" = some (.int 8 t_MOST_LETTERS)) (G_span_holds : FnH P w K mg base 1 "span_holds" ["span", "number"] (spIn)) : FnOk P w K mg base CX0 2 f fd ["wish", "piece"] (spTakes) := by
  refine F.ok sc_wish_takes (fun vs H Q E h => ?_) (fun cdv A outer s H vs Q E hr h => ?_)
  · obtain ⟨a, b, w', p, rfl, hw, hp, pok, q⟩ := h
    rfl
  obtain ⟨a, b, w', p, rfl, hw, hp, pok, q⟩ := h
  refine ⟨_, (pss_cons (ps_setDC (N' := ["field", "number"]) (js := [none, none]) (i := 2) sc_wish_takes.nd rfl (Or.inl rfl) rfl (capOk (N := ["wish", "piece", "numbers", "field", "low", "high"]) (outer := defScope s_wish_takes) (by decide +kernel)) (pi_tup (pv 1)) (fun _ _ _ _ _ => (pg_tupK K rfl (n := 2) rfl (pgs_cons (pg_name (i := 0) (show List.Nodup (["field", "number"] : List Str) by decide +kernel) rfl (Or.inl rfl)) (pgs_cons (pg_name (i := 1) (show List.Nodup (["field", "number"] : List Str) by decide +kernel) rfl (Or.inl rfl)) pgs_nil)))) (fun _ _ _ _ _ => pifs_nil) (fun _ _ _ _ _ => (pv 0)) (fun _ _ _ _ _ => (pv 1)))
      (pss_cons (ps_for PassesOwn.never rfl (pi_tup (pv 0)) (pg_tup rfl (pgs_cons (pg_name (i := 3) sc_wish_takes.nd rfl (Or.inl rfl)) (pgs_cons (pg_name (i := 4) sc_wish_takes.nd rfl (Or.inl rfl)) (pgs_cons (pg_name (i := 5) sc_wish_takes.nd rfl (Or.inl rfl)) pgs_nil)))) (pss_one (ps_if (PW.pt (pw_or (pt_cmp (pc_dnotin (hu_of hr) (pv 3) (pv 2)) (by with_unfolding_all rfl)) (pw_or1 (pt_not (pt_val (pe_fn G_span_holds (hr.mono (by decide)) rfl (pa_cons (pe_tup (pa_cons (pv 4) (pa_cons (pv 5) pa_nil))) (pa_cons (pe_dget (hu_of hr) (pv 2) (pv 3) (fun _ _ => rfl)) pa_nil)))))))) (pss_one (ps_ret pe_bl)) pss_nil)))
      (pss_one (ps_ret pe_bl)))), ?_⟩
  obtain ⟨ps, rfl, hA, hP⟩ := hp
  have ll : ps.length ≤ 100 := by have := pok.len; rw [List.length_map] at this; exact this
  refine ⟨_, rfl, b, rfl, ⟨_, SqT.of hA⟩, fun d hd => ?_⟩
  refine dc_tup (xs := ps.map fun p => V.ref p.1) (fun i σ' kvs H' => (∃ v1 v2, σ' = [v1, v2]) ∧ Same H H' ∧ H' d = some (.dK kvs) ∧ kvs.length ≤ i ∧ ∀ f : Str, valV kvs (.inr f) = (numIn ((ps.map (·.2)).take i) f).map V.int) ⟨⟨none, none, rfl⟩, same_new hd _, upd_same, Nat.zero_le _, fun f => rfl⟩ ?_ ?_ ?_
  · rintro i σ' kvs H' hi ⟨_, s, h1, h2, _⟩
    rw [List.length_map] at hi
    exact ⟨s.seqT (SqT.of hA), h1, small1000 (by omega)⟩
  · rintro i x σ' kvs H' N hx ⟨⟨v1, v2, rfl⟩, s, h1, h2, h3⟩ hN
    rw [List.getElem?_map] at hx
    cases e1 : ps[i]? with
    | none => rw [e1] at hx; cases hx
    | some P1 =>
      rw [e1] at hx
      obtain rfl : V.ref P1.1 = x := Option.some.inj hx
      have hm := List.mem_of_getElem? e1
      refine ⟨P1.1, _, rfl, SqT.of (s _ _ (hP P1 hm)), rfl, _, _, rfl, _, _, rfl, rfl, ?_⟩
      refine ⟨_, rfl, _, rfl, Sum.inr P1.2.1, rfl, h1, hN _ _ _ ⟨⟨_, _, rfl⟩, upd_off s hd, upd_same, ?_, fun f => ?_⟩⟩
      · have := length_putK kvs (Sum.inr P1.2.1 : Key) (V.int P1.2.2)
        omega
      · have ew : (ps.map (·.2))[i]? = some P1.2 := by rw [List.getElem?_map, e1]; rfl
        have fr := pok.fresh ew
        rw [take_snoc ew, numIn_snoc _ _ _ fr, valV_put]
        by_cases hf : f = P1.2.1
        · subst hf
          rw [if_pos rfl, if_pos rfl]
          rfl
        · rw [if_neg hf, if_neg (fun z => hf (by injection z))]
          exact h3 f
  · rintro σ' kvs H1 ⟨_, s1, h1, h2, h3⟩
    have et : (ps.map (·.2)).take (ps.map fun p => V.ref p.1).length = ps.map (·.2) := List.take_of_length_le (by simp)
    rw [et] at h3
    obtain ⟨ws, rfl, hB, hW⟩ := hw.same s1
    refine ⟨_, rfl, a, rfl, ⟨_, SqT.of hB⟩, for_tup (K := K) (a := a) (xs := ws.map fun p => V.ref p.1) (fun i σ H' => (∃ y3 y4 y5, σ = [some (.ref a), some (.ref b), some (.ref d), y3, y4, y5]) ∧ Same H1 H' ∧ takesW ((ws.map (·.2)).take i) (ps.map (·.2)) = true) ⟨⟨none, none, none, rfl⟩, Same.refl _, rfl⟩ (fun i σ H' _ ⟨_, s, _⟩ => s.seqT (SqT.of hB)) ?_ ?_⟩
    · rintro i x σ H' hx ⟨⟨y2, y3, y4, rfl⟩, s, hr'⟩
      rw [List.getElem?_map] at hx
      cases e1 : ws[i]? with
      | none => rw [e1] at hx; cases hx
      | some P1 =>
        rw [e1] at hx
        obtain rfl : V.ref P1.1 = x := Option.some.inj hx
        have hm := List.mem_of_getElem? e1
        have ew : (ws.map (·.2))[i]? = some P1.2 := by rw [List.getElem?_map, e1]; rfl
        have k1 := s _ _ h1
        have kf := h3 P1.2.1
        refine ⟨P1.1, _, rfl, SqT.of (s _ _ (hW P1 hm)), rfl, _, _, rfl, _, _, rfl, _, _, rfl, rfl, ?_⟩
        have out : takesP (ps.map (·.2)) P1.2 = false → takesW (ws.map (·.2)) (ps.map (·.2)) = false := fun h => takesW_out (List.mem_map_of_mem hm) h
        refine ⟨_, rfl, _, rfl, d, _, rfl, DGet.k (k := Sum.inr P1.2.1) k1, _, rfl, ?_⟩
        cases hs : numIn (ps.map (·.2)) P1.2.1 with
        | none =>
          rw [hs] at kf
          rw [kf]
          refine iteT ?_
          have o1 := out (takesP_none hs)
          rw [o1] at q
          exact q _ (s1.trans s)
        | some n =>
          rw [hs] at kf
          rw [kf]
          refine iteF ⟨_, rfl, _, rfl, (by show 2 ≤ sizeLine; decide), fun u hu => ?_⟩
          have su := same_new hu (.tup [eV P1.2.2.1, eV P1.2.2.2])
          have gd : DGet (upd H' u (.tup [eV P1.2.2.1, eV P1.2.2.2])) d (.str P1.2.1) (some (.int n)) := by
            have := DGet.k (k := Sum.inr P1.2.1) (su _ _ k1)
            rw [kf] at this
            exact this
          refine ⟨_, rfl, _, rfl, d, _, rfl, gd, .ref u, P1.2.2.1, P1.2.2.2, n, rfl, ⟨u, rfl, upd_same⟩, _, rfl, ?_⟩
          cases hb : inB P1.2.2.1 P1.2.2.2 n with
          | false =>
            refine iteT ?_
            have o1 := out ((takesP_some hs).trans hb)
            rw [o1] at q
            exact q _ (s1.trans (s.trans su))
          | true =>
            refine iteF ⟨⟨_, _, _, rfl⟩, s.trans su, ?_⟩
            rw [take_snoc ew]
            unfold takesW at *
            rw [List.all_append, hr', Bool.true_and, List.all_cons, List.all_nil, takesP_some hs, hb]
            rfl
    · rintro σ H' ⟨_, s, hr'⟩
      rw [show (ws.map (·.2)).take (ws.map fun p => V.ref p.1).length = ws.map (·.2) from List.take_of_length_le (by simp)] at hr'
      rw [hr'] at q
      exact q _ (s1.trans s)

theorem sc_wants : FnScope ["wish", "piece"] ["wish", "piece"] (defScope s_wants) := ⟨rfl, rfl, rfl, by decide +kernel, rfl, by decide +kernel, by decide +kernel⟩
theorem ok_wants {f : Addr} {fd : FuncData} (F : Fun K "wants" "wants" s_wants f fd) (B : Bl mg) {t_MOST_LETTERS : Tok} (C_MOST_LETTERS : mg "MOST_LETTERS" = some (.int 8 t_MOST_LETTERS)) (G_check_wish : FnH P w K mg base 6 "check_wish" ["thing"] (spChkWish)) (G_check_piece : FnH P w K mg base 4 "check_piece" ["thing"] (spChkPiece)) (G_wish_takes : FnH P w K mg base 2 "wish_takes" ["wish", "piece"] (spTakes)) : FnOk P w K mg base CX0 7 f fd ["wish", "piece"] (spWants) := by
  refine F.ok sc_wants (fun vs H Q E h => ?_) (fun cdv A outer s H vs Q E hr h => ?_)
  · obtain ⟨a, b, w', p, rfl, hw, hp, wok, pok, q⟩ := h
    rfl
  obtain ⟨a, b, w', p, rfl, hw, hp, wok, pok, q⟩ := h
  refine ⟨_, (pss_cons (ps_expr (pe_fn G_check_wish (hr.mono (by decide)) rfl (pa_cons (pv 0) pa_nil)))
      (pss_cons (ps_expr (pe_fn G_check_piece (hr.mono (by decide)) rfl (pa_cons (pv 1) pa_nil)))
      (pss_one (ps_ret (pe_fn G_wish_takes (hr.mono (by decide)) rfl (pa_cons (pv 0) (pa_cons (pv 1) pa_nil))))))), ?_⟩
  refine ⟨_, rfl, a, w', rfl, hw, wok, fun H1 s1 => ?_⟩
  refine ⟨_, rfl, b, p, rfl, hp.same s1, pok, fun H2 s2 => ?_⟩
  have t2 := s1.trans s2
  exact ⟨_, rfl, _, rfl, a, b, w', p, rfl, hw.same t2, hp.same t2, pok, fun H3 s3 => q _ (t2.trans s3)⟩

theorem sc_spans_by_field : FnScope ["wish"] ["wish"] (defScope s_spans_by_field) := ⟨rfl, rfl, rfl, by decide +kernel, rfl, by decide +kernel, by decide +kernel⟩
theorem ok_spans_by_field {f : Addr} {fd : FuncData} (F : Fun K "spans_by_field" "spans_by_field" s_spans_by_field f fd) (B : Bl mg) {t_MOST_LETTERS : Tok} (C_MOST_LETTERS : mg "MOST_LETTERS" = some (.int 8 t_MOST_LETTERS))  : FnOk P w K mg base CX0 1 f fd ["wish"] (spSpansBy) := by
  refine F.ok sc_spans_by_field (fun vs H Q E h => ?_) (fun cdv A outer s H vs Q E hr h => ?_)
  · obtain ⟨a, w', rfl, hw, wok, q⟩ := h
    rfl
  obtain ⟨a, w', rfl, hw, wok, q⟩ := h
  refine ⟨_, (pss_one (ps_ret (pe_dc (N' := ["field", "low", "high"]) (js := [none, none, none]) rfl (capOk (N := ["wish"]) (outer := defScope s_spans_by_field) (by decide +kernel)) (pi_tup (pv 0)) (fun _ _ _ _ _ => (pg_tupK K rfl (n := 3) rfl (pgs_cons (pg_name (i := 0) (show List.Nodup (["field", "low", "high"] : List Str) by decide +kernel) rfl (Or.inl rfl)) (pgs_cons (pg_name (i := 1) (show List.Nodup (["field", "low", "high"] : List Str) by decide +kernel) rfl (Or.inl rfl)) (pgs_cons (pg_name (i := 2) (show List.Nodup (["field", "low", "high"] : List Str) by decide +kernel) rfl (Or.inl rfl)) pgs_nil))))) (fun _ _ _ _ _ => pifs_nil) (fun _ _ _ _ _ => (pv 0)) (fun _ _ _ _ _ => (pe_tup (pa_cons (pv 1) (pa_cons (pv 2) pa_nil))))))), ?_⟩
  obtain ⟨ps, rfl, hA, hP⟩ := hw
  have ll : ps.length ≤ 100 := by have := wok.len; rw [List.length_map] at this; exact this
  refine ⟨_, rfl, a, rfl, ⟨_, SqT.of hA⟩, fun d hd => ?_⟩
  refine dc_tup (xs := ps.map fun p => V.ref p.1) (fun i σ' kvs H' => (∃ v1 v2 v3, σ' = [v1, v2, v3]) ∧ Same H H' ∧ H' d = some (.dK kvs) ∧ kvs.length ≤ i ∧ ∀ f : Str, match spanOf ((ps.map (·.2)).take i) f with
      | none => valV kvs (.inr f) = none
      | some s => ∃ t, valV kvs (.inr f) = some (.ref t) ∧ H' t = some (.tup [eV s.1, eV s.2])) ⟨⟨none, none, none, rfl⟩, same_new hd _, upd_same, Nat.zero_le _, fun f => rfl⟩ ?_ ?_ ?_
  · rintro i σ' kvs H' hi ⟨_, s, h1, h2, _⟩
    rw [List.length_map] at hi
    exact ⟨s.seqT (SqT.of hA), h1, small1000 (by omega)⟩
  · rintro i x σ' kvs H' N hx ⟨⟨v1, v2, v3, rfl⟩, s, h1, h2, h3⟩ hN
    rw [List.getElem?_map] at hx
    cases e1 : ps[i]? with
    | none => rw [e1] at hx; cases hx
    | some P1 =>
      rw [e1] at hx
      obtain rfl : V.ref P1.1 = x := Option.some.inj hx
      have hm := List.mem_of_getElem? e1
      refine ⟨P1.1, _, rfl, SqT.of (s _ _ (hP P1 hm)), rfl, _, _, rfl, _, _, rfl, _, _, rfl, rfl, ?_⟩
      refine ⟨_, rfl, _, rfl, _, rfl, (by show 2 ≤ sizeLine; decide), fun u hu => ?_⟩
      have su := same_new hu (.tup [eV P1.2.2.1, eV P1.2.2.2])
      have eu : (upd H' u (.tup [eV P1.2.2.1, eV P1.2.2.2])) u = some (.tup [eV P1.2.2.1, eV P1.2.2.2]) := upd_same
      have h1' := su _ _ h1
      generalize upd H' u (.tup [eV P1.2.2.1, eV P1.2.2.2]) = H2 at *
      have du : u ≠ d := ne_of eu h1' (by intro z; cases z)
      refine ⟨Sum.inr P1.2.1, rfl, h1', hN _ _ _ ⟨⟨_, _, _, rfl⟩, upd_off (s.trans su) hd, upd_same, ?_, fun f => ?_⟩⟩
      · have := length_putK kvs (Sum.inr P1.2.1 : Key) (V.ref u)
        omega
      · have ew : (ps.map (·.2))[i]? = some P1.2 := by rw [List.getElem?_map, e1]; rfl
        have fr := wok.fresh ew
        rw [take_snoc ew, spanOf_snoc _ _ _ fr, valV_put]
        by_cases hf : f = P1.2.1
        · subst hf
          rw [if_pos rfl, if_pos rfl]
          exact ⟨u, rfl, by rw [upd_ne du]; exact eu⟩
        · rw [if_neg hf, if_neg (fun z => hf (by injection z))]
          have := h3 f
          cases hs : spanOf ((ps.map (·.2)).take i) f with
          | none => rw [hs] at this; exact this
          | some sp =>
            rw [hs] at this
            obtain ⟨t, t1, t2⟩ := this
            exact ⟨t, t1, by rw [upd_ne (ne_of (su _ _ t2) h1' (by intro z; cases z))]; exact su _ _ t2⟩
  · rintro σ' kvs H' ⟨_, s, h1, h2, h3⟩
    have et : (ps.map (·.2)).take (ps.map fun p => V.ref p.1).length = ps.map (·.2) := List.take_of_length_le (by simp)
    refine q d H' s hd ⟨kvs, h1, by simpa using h2, fun f => ?_⟩
    have := h3 f
    rw [et] at this
    exact this

theorem sc_reaches_spans : FnScope ["one", "other_spans", "field", "low", "high"] ["one", "other_spans"] (defScope s_reaches_spans) := ⟨rfl, rfl, rfl, by decide +kernel, rfl, by decide +kernel, by decide +kernel⟩
theorem ok_reaches_spans {f : Addr} {fd : FuncData} (F : Fun K "reaches_spans" "reaches_spans" s_reaches_spans f fd) (B : Bl mg) {t_MOST_LETTERS : Tok} (C_MOST_LETTERS : mg "MOST_LETTERS" = some (.int 8 t_MOST_LETTERS)) (G_span_reaches : FnH P w K mg base 1 "span_reaches" ["one", "other"] (spReach)) : FnOk P w K mg base CX0 2 f fd ["one", "other_spans"] (spReachSp) := by
  refine F.ok sc_reaches_spans (fun vs H Q E h => ?_) (fun cdv A outer s H vs Q E hr h => ?_)
  · obtain ⟨a, d, w', w2, rfl, hw, hd, q⟩ := h
    rfl
  obtain ⟨a, d, w', w2, rfl, hw, hd, q⟩ := h
  refine ⟨_, (pss_cons (ps_for PassesOwn.never rfl (pi_tup (pv 0)) (pg_tup rfl (pgs_cons (pg_name (i := 2) sc_reaches_spans.nd rfl (Or.inl rfl)) (pgs_cons (pg_name (i := 3) sc_reaches_spans.nd rfl (Or.inl rfl)) (pgs_cons (pg_name (i := 4) sc_reaches_spans.nd rfl (Or.inl rfl)) pgs_nil)))) (pss_one (ps_if (PW.pt (pw_or (pt_cmp (pc_dnotin (hu_of hr) (pv 2) (pv 1)) (by with_unfolding_all rfl)) (pw_or1 (pt_not (pt_val (pe_fn G_span_reaches (hr.mono (by decide)) rfl (pa_cons (pe_tup (pa_cons (pv 3) (pa_cons (pv 4) pa_nil))) (pa_cons (pe_dget (hu_of hr) (pv 1) (pv 2) (fun _ _ => rfl)) pa_nil)))))))) (pss_one (ps_ret pe_bl)) pss_nil)))
      (pss_one (ps_ret pe_bl))), ?_⟩
  obtain ⟨ps, rfl, hA, hP⟩ := hw
  refine ⟨_, rfl, a, rfl, ⟨_, SqT.of hA⟩, for_tup (K := K) (a := a) (xs := ps.map fun p => V.ref p.1) (fun i σ H' => (∃ y2 y3 y4, σ = [some (.ref a), some (.ref d), y2, y3, y4]) ∧ Same H H' ∧ reachW ((ps.map (·.2)).take i) w2 = true) ⟨⟨none, none, none, rfl⟩, Same.refl _, rfl⟩ (fun i σ H' _ ⟨_, s, _⟩ => s.seqT (SqT.of hA)) ?_ ?_⟩
  · rintro i x σ H' hx ⟨⟨y2, y3, y4, rfl⟩, s, hr'⟩
    rw [List.getElem?_map] at hx
    cases e1 : ps[i]? with
    | none => rw [e1] at hx; cases hx
    | some P1 =>
      rw [e1] at hx
      obtain rfl : V.ref P1.1 = x := Option.some.inj hx
      have hm := List.mem_of_getElem? e1
      have ew : (ps.map (·.2))[i]? = some P1.2 := by rw [List.getElem?_map, e1]; rfl
      obtain ⟨kvs, k1, k2, k3⟩ := hd.same s
      have kf := k3 P1.2.1
      refine ⟨P1.1, _, rfl, SqT.of (s _ _ (hP P1 hm)), rfl, _, _, rfl, _, _, rfl, _, _, rfl, rfl, ?_⟩
      have out : reachP w2 P1.2 = false → reachW (ps.map (·.2)) w2 = false := fun h => by
        unfold reachW
        rw [List.all_eq_false]
        exact ⟨P1.2, List.mem_map_of_mem hm, by rw [h]; exact Bool.false_ne_true⟩
      refine ⟨_, rfl, _, rfl, d, _, rfl, DGet.k (k := Sum.inr P1.2.1) k1, _, rfl, ?_⟩
      cases hs : spanOf w2 P1.2.1 with
      | none =>
        rw [hs] at kf
        rw [kf]
        refine iteT ?_
        have o1 := out (reachP_none hs)
        rw [o1] at q
        exact q _ s
      | some sp =>
        rw [hs] at kf
        obtain ⟨t, t1, t2⟩ := kf
        rw [t1]
        refine iteF ⟨_, rfl, _, rfl, (by show 2 ≤ sizeLine; decide), fun u hu => ?_⟩
        have su := same_new hu (.tup [eV P1.2.2.1, eV P1.2.2.2])
        have gd : DGet (upd H' u (.tup [eV P1.2.2.1, eV P1.2.2.2])) d (.str P1.2.1) (some (.ref t)) := by
          have := DGet.k (k := Sum.inr P1.2.1) (su _ _ k1)
          rw [t1] at this
          exact this
        refine ⟨_, rfl, _, rfl, d, _, rfl, gd, .ref u, .ref t, P1.2.2.1, P1.2.2.2, sp.1, sp.2, rfl, ⟨u, rfl, upd_same⟩, ⟨t, rfl, su _ _ t2⟩, _, rfl, ?_⟩
        cases hb : reachB P1.2.2.1 P1.2.2.2 sp.1 sp.2 with
        | false =>
          refine iteT ?_
          have o1 := out ((reachP_some hs).trans hb)
          rw [o1] at q
          exact q _ (s.trans su)
        | true =>
          refine iteF ⟨⟨_, _, _, rfl⟩, s.trans su, ?_⟩
          rw [take_snoc ew]
          unfold reachW at *
          rw [List.all_append, hr', Bool.true_and, List.all_cons, List.all_nil, reachP_some hs, hb]
          rfl
  · rintro σ H' ⟨_, s, hr'⟩
    rw [show (ps.map (·.2)).take (ps.map fun p => V.ref p.1).length = ps.map (·.2) from List.take_of_length_le (by simp)] at hr'
    rw [hr'] at q
    exact q _ s

theorem sc_wish_reaches : FnScope ["one", "other"] ["one", "other"] (defScope s_wish_reaches) := ⟨rfl, rfl, rfl, by decide +kernel, rfl, by decide +kernel, by decide +kernel⟩
theorem ok_wish_reaches {f : Addr} {fd : FuncData} (F : Fun K "wish_reaches" "wish_reaches" s_wish_reaches f fd) (B : Bl mg) {t_MOST_LETTERS : Tok} (C_MOST_LETTERS : mg "MOST_LETTERS" = some (.int 8 t_MOST_LETTERS)) (G_reaches_spans : FnH P w K mg base 2 "reaches_spans" ["one", "other_spans"] (spReachSp)) (G_spans_by_field : FnH P w K mg base 1 "spans_by_field" ["wish"] (spSpansBy)) : FnOk P w K mg base CX0 3 f fd ["one", "other"] (spWishReach) := by
  refine F.ok sc_wish_reaches (fun vs H Q E h => ?_) (fun cdv A outer s H vs Q E hr h => ?_)
  · obtain ⟨a, b, w', w2, rfl, hw, hw2, wok, q⟩ := h
    rfl
  obtain ⟨a, b, w', w2, rfl, hw, hw2, wok, q⟩ := h
  refine ⟨_, (pss_one (ps_ret (pe_fn G_reaches_spans (hr.mono (by decide)) rfl (pa_cons (pv 0) (pa_cons (pe_fn G_spans_by_field (hr.mono (by decide)) rfl (pa_cons (pv 1) pa_nil)) pa_nil))))), ?_⟩
  exact ⟨_, rfl, _, rfl, b, w2, rfl, hw2, wok, fun d H1 s1 n1 D1 => ⟨a, d, w', w2, rfl, hw.same s1, D1, fun H2 s2 => q H2 (s1.trans s2)⟩⟩

theorem sc_covers : FnScope ["one", "other"] ["one", "other"] (defScope s_covers) := ⟨rfl, rfl, rfl, by decide +kernel, rfl, by decide +kernel, by decide +kernel⟩
theorem ok_covers {f : Addr} {fd : FuncData} (F : Fun K "covers" "covers" s_covers f fd) (B : Bl mg) {t_MOST_LETTERS : Tok} (C_MOST_LETTERS : mg "MOST_LETTERS" = some (.int 8 t_MOST_LETTERS)) (G_check_wish : FnH P w K mg base 6 "check_wish" ["thing"] (spChkWish)) (G_wish_reaches : FnH P w K mg base 3 "wish_reaches" ["one", "other"] (spWishReach)) : FnOk P w K mg base CX0 7 f fd ["one", "other"] (spCoversW) := by
  refine F.ok sc_covers (fun vs H Q E h => ?_) (fun cdv A outer s H vs Q E hr h => ?_)
  · obtain ⟨a, b, w', w2, rfl, hw, hw2, ok1, ok2, q⟩ := h
    rfl
  obtain ⟨a, b, w', w2, rfl, hw, hw2, ok1, ok2, q⟩ := h
  refine ⟨_, (pss_cons (ps_expr (pe_fn G_check_wish (hr.mono (by decide)) rfl (pa_cons (pv 0) pa_nil)))
      (pss_cons (ps_expr (pe_fn G_check_wish (hr.mono (by decide)) rfl (pa_cons (pv 1) pa_nil)))
      (pss_one (ps_ret (pe_fn G_wish_reaches (hr.mono (by decide)) rfl (pa_cons (pv 0) (pa_cons (pv 1) pa_nil))))))), ?_⟩
  refine ⟨_, rfl, a, w', rfl, hw, ok1, fun H1 s1 => ?_⟩
  refine ⟨_, rfl, b, w2, rfl, hw2.same s1, ok2, fun H2 s2 => ?_⟩
  have t2 := s1.trans s2
  exact ⟨_, rfl, _, rfl, a, b, w', w2, rfl, hw.same t2, hw2.same t2, ok2, fun H3 s3 => q _ (t2.trans s3)⟩

theorem sc_parting_piece : FnScope ["one", "other", "other_spans", "piece", "field", "low", "high", "number"] ["one", "other"] (defScope s_parting_piece) := ⟨rfl, rfl, rfl, by decide +kernel, rfl, by decide +kernel, by decide +kernel⟩
theorem ok_parting_piece {f : Addr} {fd : FuncData} (F : Fun K "parting_piece" "parting_piece" s_parting_piece f fd) (B : Bl mg) {t_MOST_LETTERS : Tok} (C_MOST_LETTERS : mg "MOST_LETTERS" = some (.int 8 t_MOST_LETTERS)) (G_check_wish : FnH P w K mg base 6 "check_wish" ["thing"] (spChkWish)) (G_wish_reaches : FnH P w K mg base 3 "wish_reaches" ["one", "other"] (spWishReach)) (G_spans_by_field : FnH P w K mg base 1 "spans_by_field" ["wish"] (spSpansBy)) (G_number_apart : FnH P w K mg base 2 "number_apart" ["one", "other"] (spApart)) (G_number_of : FnH P w K mg base 1 "number_of" ["span"] (spNumOf)) : FnOk P w K mg base CX0 7 f fd ["one", "other"] (spParting) := by
  refine F.ok sc_parting_piece (fun vs H Q E h => ?_) (fun cdv A outer s H vs Q E hr h => ?_)
  · obtain ⟨a, b, w', w2, rfl, hw, hw2, ok1, ok2, qT, qF⟩ := h
    rfl
  obtain ⟨a, b, w', w2, rfl, hw, hw2, ok1, ok2, qT, qF⟩ := h
  refine ⟨_, (pss_cons (ps_expr (pe_fn G_check_wish (hr.mono (by decide)) rfl (pa_cons (pv 0) pa_nil)))
      (pss_cons (ps_expr (pe_fn G_check_wish (hr.mono (by decide)) rfl (pa_cons (pv 1) pa_nil)))
      (pss_cons (ps_if (pt_val (pe_fn G_wish_reaches (hr.mono (by decide)) rfl (pa_cons (pv 1) (pa_cons (pv 0) pa_nil)))) (pss_one (ps_ret pe_non)) pss_nil)
      (pss_cons (ps_set (i := 2) sc_parting_piece.nd rfl (Or.inl rfl) (pe_fn G_spans_by_field (hr.mono (by decide)) rfl (pa_cons (pv 1) pa_nil)))
      (pss_cons (ps_set (i := 3) sc_parting_piece.nd rfl (Or.inl rfl) (pe_lst pa_nil))
      (pss_cons (ps_for PassesOwn.never rfl (pi_tup (pv 0)) (pg_tup rfl (pgs_cons (pg_name (i := 4) sc_parting_piece.nd rfl (Or.inl rfl)) (pgs_cons (pg_name (i := 5) sc_parting_piece.nd rfl (Or.inl rfl)) (pgs_cons (pg_name (i := 6) sc_parting_piece.nd rfl (Or.inl rfl)) pgs_nil)))) (pss_cons (ps_set (i := 7) sc_parting_piece.nd rfl (Or.inl rfl) (pe_fn G_number_apart (hr.mono (by decide)) rfl (pa_cons (pe_tup (pa_cons (pv 5) (pa_cons (pv 6) pa_nil))) (pa_cons (pe_dget2 (hu_of hr) (pv 2) (pv 4) (pe_tup (pa_cons pe_non (pa_cons pe_non pa_nil))) ⟨rfl, rfl, rfl, rfl⟩) pa_nil))))
      (pss_cons (ps_if (pt_cmp (pc_isN (pv 7))) (pss_one (ps_set (i := 7) sc_parting_piece.nd rfl (Or.inl rfl) (pe_fn G_number_of (hr.mono (by decide)) rfl (pa_cons (pe_tup (pa_cons (pv 5) (pa_cons (pv 6) pa_nil))) pa_nil)))) pss_nil)
      (pss_one (ps_expr (pe_bm PySem.F.plainAttrs_list PySem.F.slot_list_append PySem.F.type_list_append mt_append (pv 3) (pa_cons (pe_tup (pa_cons (pv 4) (pa_cons (pv 7) pa_nil))) pa_nil)))))))
      (pss_one (ps_ret (pe_callTy call_tuple_of rfl B.tuple_ bt_tuple (pa_cons (pv 3) pa_nil)))))))))), ?_⟩
  refine ⟨_, rfl, a, w', rfl, hw, ok1, fun H1 s1 => ?_⟩
  refine ⟨_, rfl, b, w2, rfl, hw2.same s1, ok2, fun H2 s2 => ?_⟩
  have t2 := s1.trans s2
  refine ⟨_, rfl, _, rfl, b, a, w2, w', rfl, hw2.same t2, hw.same t2, ok1, fun H3 s3 => ⟨_, rfl, ?_⟩⟩
  have t3 := t2.trans s3
  cases hb : reachW w2 w' with
  | true => exact iteT (qT hb _ t3)
  | false =>
    refine iteF ⟨_, rfl, b, w2, rfl, hw2.same t3, ok2, fun d H4 s4 n4 D4 => ?_⟩
    have t4 := t3.trans s4
    refine ⟨sz0, fun l hl => ?_⟩
    have s5 := same_new hl (.lst [])
    have hd5 := D4.same s5
    have nl : H l = none := none_of t4 hl
    have ll := ok1.len
    obtain ⟨ps, rfl, hA, hP⟩ := hw.same (t4.trans s5)
    rw [List.length_map] at ll
    have e5 : (upd H4 l (.lst [])) l = some (.lst []) := upd_same
    have t5 := t4.trans s5
    have d5 : ∃ kvs, (upd H4 l (.lst [])) d = some (.dK kvs) := let ⟨kvs, e, _⟩ := hd5; ⟨kvs, e⟩
    generalize upd H4 l (.lst []) = H5 at *
    refine ⟨_, rfl, a, rfl, ⟨_, SqT.of hA⟩, for_tup (K := K) (a := a) (xs := ps.map fun p => V.ref p.1) (fun i σ H' => (∃ y5 y6 y7 y4, σ = [some (.ref a), some (.ref b), some (.ref d), some (.ref l), y4, y5, y6, y7]) ∧ Same H H' ∧ (∀ c xs, H5 c = some (.tup xs) → H' c = some (.tup xs)) ∧ DictSp H' d w2 ∧ ∃ qs : List (Addr × PP), H' l = some (.lst (qs.map fun q => V.ref q.1)) ∧ qs.map (·.2) = partP ((ps.map (·.2)).take i) w2 ∧ ∀ q ∈ qs, H' q.1 = some (.tup [.str q.2.1, .int q.2.2])) ?_ ?_ ?_ ?_⟩
    · exact ⟨⟨none, none, none, none, rfl⟩, t5, fun c xs h => h, hd5, [], e5, rfl, fun q hq => by simp at hq⟩
    · rintro i σ H' _ ⟨_, _, s, _⟩
      exact SqT.of (s _ _ hA)
    · rintro i x σ H6 hx ⟨⟨y5, y6, y7, y4, rfl⟩, s6, c6, D6, qs, f6, g6, h6⟩
      rw [List.getElem?_map] at hx
      cases e1 : ps[i]? with
      | none => rw [e1] at hx; cases hx
      | some P1 =>
        rw [e1] at hx
        obtain rfl : V.ref P1.1 = x := Option.some.inj hx
        have hm := List.mem_of_getElem? e1
        have li := (List.getElem?_eq_some_iff.mp e1).1
        have ew : (ps.map (·.2))[i]? = some P1.2 := by rw [List.getElem?_map, e1]; rfl
        have lq : qs.length = i := by
          have := congrArg List.length g6
          unfold partP at this
          simp at this
          omega
        refine ⟨P1.1, _, rfl, SqT.of (c6 _ _ (hP P1 hm)), rfl, _, _, rfl, _, _, rfl, _, _, rfl, rfl, ?_⟩
        refine ⟨_, rfl, _, rfl, (by show 2 ≤ sizeLine; decide), fun u hu => ?_⟩
        have su := same_new hu (.tup [eV P1.2.2.1, eV P1.2.2.2])
        have eu : (upd H6 u (.tup [eV P1.2.2.1, eV P1.2.2.2])) u = some (.tup [eV P1.2.2.1, eV P1.2.2.2]) := upd_same
        have D7 := D6.same su
        have f7 := su _ _ f6
        generalize upd H6 u (.tup [eV P1.2.2.1, eV P1.2.2.2]) = H7 at *
        obtain ⟨kvs, k1, k2, k3⟩ := id D7
        refine ⟨_, rfl, d, rfl, .inl ⟨kvs, .inl k1⟩, _, rfl, (by show 2 ≤ sizeLine; decide), fun v hv => ?_⟩
        have sv := same_new hv (.tup [V.non, V.non])
        have ev : (upd H7 v (.tup [V.non, V.non])) v = some (.tup [V.non, V.non]) := upd_same
        have eu8 := sv _ _ eu
        have f8 := sv _ _ f7
        have D8 := D7.same sv
        have k8 := sv _ _ k1
        generalize upd H7 v (.tup [V.non, V.non]) = H8 at *
        have s68 := su.trans sv
        have kf := k3 P1.2.1
        have gd := DGet.k (k := Sum.inr P1.2.1) k8
        obtain ⟨sp, esp, tt, ett, htt⟩ : ∃ sp : Option Int × Option Int, (spanOf w2 P1.2.1).getD (none, none) = sp ∧ ∃ tt, (valV kvs (Sum.inr P1.2.1 : Key)).getD (.ref v) = .ref tt ∧ H8 tt = some (.tup [eV sp.1, eV sp.2]) := by
          cases hs : spanOf w2 P1.2.1 with
          | none => rw [hs] at kf; rw [kf]; exact ⟨(none, none), rfl, v, rfl, ev⟩
          | some sp => rw [hs] at kf; obtain ⟨t, z1, z2⟩ := kf; rw [z1]; exact ⟨sp, rfl, t, rfl, sv _ _ z2⟩
        refine ⟨_, gd, ?_⟩
        rw [ett]
        refine ⟨.ref u, .ref tt, P1.2.2.1, P1.2.2.2, sp.1, sp.2, rfl, ⟨u, rfl, eu8⟩, ⟨tt, rfl, htt⟩, fun H9 s9 => ?_⟩
        have t9 := s6.trans (s68.trans s9)
        have s69 := s68.trans s9
        have f9 := s9 _ _ f8
        have D9 := D8.same s9
        have fin : ∀ (n : Int) (H10 : Hp) (y7' : Option V), n = numFor w2 P1.2 → Same H9 H10 → ∀ t, H10 t = none → Tups H5 (upd (upd H10 t (.tup [.str P1.2.1, .int n])) l (.lst (qs.map (fun q => V.ref q.1) ++ [V.ref t]))) ∧ Same H (upd (upd H10 t (.tup [.str P1.2.1, .int n])) l (.lst (qs.map (fun q => V.ref q.1) ++ [V.ref t]))) ∧
            DictSp (upd (upd H10 t (.tup [.str P1.2.1, .int n])) l (.lst (qs.map (fun q => V.ref q.1) ++ [V.ref t]))) d w2 ∧ (upd H10 t (.tup [.str P1.2.1, .int n])) l = some (.lst (qs.map fun q => V.ref q.1)) ∧ ∃ qs' : List (Addr × PP), (upd (upd H10 t (.tup [.str P1.2.1, .int n])) l (.lst (qs.map (fun q => V.ref q.1) ++ [V.ref t]))) l = some (.lst (qs'.map fun q => V.ref q.1)) ∧ qs'.map (·.2) = partP ((ps.map (·.2)).take (i + 1)) w2 ∧ ∀ q ∈ qs', (upd (upd H10 t (.tup [.str P1.2.1, .int n])) l (.lst (qs.map (fun q => V.ref q.1) ++ [V.ref t]))) q.1 = some (.tup [.str q.2.1, .int q.2.2]) := by
          intro n H10 _ en s10 t ht
          have st := same_new ht (.tup [V.str P1.2.1, V.int n])
          have s9t := s10.trans st
          have fl := s9t _ _ f9
          have tl : Tups (upd H10 t (.tup [V.str P1.2.1, V.int n])) (upd (upd H10 t (.tup [V.str P1.2.1, V.int n])) l (.lst (qs.map (fun q => V.ref q.1) ++ [V.ref t]))) := tups_lst fl
          have all : Tups H6 (upd (upd H10 t (.tup [V.str P1.2.1, V.int n])) l (.lst (qs.map (fun q => V.ref q.1) ++ [V.ref t]))) := (s69.trans s9t).tups.trans tl
          refine ⟨fun c xs h => all _ _ (c6 c xs h), upd_off (t9.trans s9t) nl, ?_, fl, qs ++ [(t, P1.2.1, n)], ?_, ?_, ?_⟩
          · obtain ⟨kv, q1, q2, q3⟩ := D9.same s9t
            have dl : d ≠ l := ne_of q1 fl (by intro z; cases z)
            refine ⟨kv, by rw [upd_ne dl]; exact q1, q2, fun f => ?_⟩
            have := q3 f
            cases hs : spanOf w2 f with
            | none => rw [hs] at this; exact this
            | some sp => rw [hs] at this; obtain ⟨z, z1, z2⟩ := this; exact ⟨z, z1, tl _ _ z2⟩
          · rw [upd_same, List.map_append]; rfl
          · rw [List.map_append, g6, take_snoc ew]
            unfold partP
            rw [List.map_append, en]
            rfl
          · intro q hq
            rcases List.mem_append.mp hq with z | z
            · exact all _ _ (h6 q z)
            · rw [List.mem_singleton.mp z]
              exact tl _ _ upd_same
        refine ⟨_, rfl, _, rfl, ?_⟩
        cases en : numApart P1.2.2.1 P1.2.2.2 sp.1 sp.2 with
        | some n =>
          have fn := numFor_some esp en
          refine iteF ⟨_, rfl, .inl ⟨rfl, _, SqL.of f9⟩, _, rfl, _, rfl, (by show 2 ≤ sizeLine; decide), fun t ht => ?_⟩
          obtain ⟨r1, r2, r3, r4, r5⟩ := fin n H9 none fn.symm (Same.refl _) t ht
          exact ⟨l, _, _, rfl, rfl, r4, (by rw [List.length_map, lq]; exact small1000 (by omega)), ⟨_, _, _, _, rfl⟩, r2, r1, r3, r5⟩
        | none =>
          have fn := numFor_none esp en
          refine iteT ⟨_, rfl, _, rfl, (by show 2 ≤ sizeLine; decide), fun z hz => ?_⟩
          have sz := same_new hz (.tup [eV P1.2.2.1, eV P1.2.2.2])
          refine ⟨.ref z, P1.2.2.1, P1.2.2.2, rfl, ⟨z, rfl, upd_same⟩, ?_⟩
          refine ⟨_, rfl, .inl ⟨rfl, _, SqL.of (sz _ _ f9)⟩, _, rfl, _, rfl, (by show 2 ≤ sizeLine; decide), fun t ht => ?_⟩
          obtain ⟨r1, r2, r3, r4, r5⟩ := fin _ _ none fn.symm sz t ht
          exact ⟨l, _, _, rfl, rfl, r4, (by rw [List.length_map, lq]; exact small1000 (by omega)), ⟨_, _, _, _, rfl⟩, r2, r1, r3, r5⟩
    · rintro σ H6 ⟨⟨y5, y6, y7, y4, rfl⟩, s6, c6, D6, qs, f6, g6, h6⟩
      rw [show (ps.map (·.2)).take (ps.map fun p => V.ref p.1).length = ps.map (·.2) from List.take_of_length_le (by simp)] at g6
      refine ⟨_, rfl, l, _, rfl, .inl ⟨SqL.of f6, fun r hr' => ?_⟩⟩
      have sr := same_new hr' (.tup (qs.map fun q => V.ref q.1))
      exact qF hb r _ (s6.trans sr) ⟨qs, g6, upd_same, fun q hq => sr _ _ (h6 q hq)⟩

theorem sc_law_bag : FnScope ["script", "great", "lesser", "stir", "cell"] ["script"] (defScope s_law_bag) := ⟨rfl, rfl, rfl, by decide +kernel, rfl, by decide +kernel, by decide +kernel⟩
theorem ok_law_bag {f : Addr} {fd : FuncData} (F : Fun K "_law_bag" "_law_bag" s_law_bag f fd) (B : Bl mg) {t_MOST_LETTERS : Tok} (C_MOST_LETTERS : mg "MOST_LETTERS" = some (.int 8 t_MOST_LETTERS))  : FnOk P w K mg base CX0 1 f fd ["script"] (spBag K) := by
  refine F.ok sc_law_bag (fun vs H Q E h => ?_) (fun cdv A outer s H vs Q E hr h => ?_)
  · obtain ⟨a, ns, rfl, hS, h63, q⟩ := h
    rfl
  obtain ⟨a, ns, rfl, hS, h63, q⟩ := h
  refine ⟨_, (pss_cons (ps_setLC (N' := ["cell"]) (js := [none]) (i := 1) sc_law_bag.nd rfl (Or.inl rfl) rfl (capOk (N := ["script", "great", "lesser", "stir", "cell"]) (outer := defScope s_law_bag) (by decide +kernel)) (pi_list (pe_slice sl_list (pv 0) po_none (po_some pe_int))) (fun _ _ _ _ _ => (pg_name (i := 0) (show List.Nodup (["cell"] : List Str) by decide +kernel) rfl (Or.inl rfl))) (fun _ _ _ _ _ => pifs_one (pt_cmpR op_ge (pv 0) (pe_op op_powB pe_int pe_int) (nomark _))) (fun _ _ _ _ _ => (pe_op op_sub (pv 0) (pe_op op_powB pe_int pe_int))))
      (pss_cons (ps_setLC (N' := ["cell"]) (js := [none]) (i := 2) sc_law_bag.nd rfl (Or.inl rfl) rfl (capOk (N := ["script", "great", "lesser", "stir", "cell"]) (outer := defScope s_law_bag) (by decide +kernel)) (pi_list (pe_slice sl_list (pv 0) po_none (po_some pe_int))) (fun _ _ _ _ _ => (pg_name (i := 0) (show List.Nodup (["cell"] : List Str) by decide +kernel) rfl (Or.inl rfl))) (fun _ _ _ _ _ => pifs_one (pt_cmpR op_lt (pv 0) (pe_op op_powB pe_int pe_int) (nomark _))) (fun _ _ _ _ _ => (pe_op op_mod (pv 0) (pe_op op_powB pe_int pe_int))))
      (pss_cons (ps_set (i := 3) sc_law_bag.nd rfl (Or.inl rfl) pe_int)
      (pss_cons (ps_for PassesOwn.never rfl (pi_list (pv 2)) (pg_name (i := 4) sc_law_bag.nd rfl (Or.inl rfl)) (pss_one (ps_set (i := 3) sc_law_bag.nd rfl (Or.inl rfl) (pe_op op_mod (pe_op op_powB (pe_op op_add (pe_op op_add (pv 3) (pv 4)) pe_int) pe_int) pe_int))))
      (pss_one (ps_ret (pe_lst (pa_cons (pv 1) (pa_cons (pe_op op_cat (pv 2) (pe_lst (pa_cons pe_int pa_nil))) (pa_cons pe_int (pa_cons (pv 3) pa_nil))))))))))), ?_⟩
  have e18 : (10 : Int) ^ (18 : Int).toNat = 10 ^ 18 := by decide
  have cut : cutV (ns.map V.int) none (some 63) = ns.map V.int := by
    unfold cutV
    rw [show HT.sIx (ns.map V.int).length 0 none = 0 from rfl, show HT.sIx (ns.map V.int).length (ns.map V.int).length (some 63) = min 63 (ns.map V.int).length from HT.sIx_nat _ _ 63]
    rw [List.drop_zero]
    exact List.take_of_length_le (by rw [List.length_map]; omega)
  refine ⟨_, rfl, _, rfl, a, _, rfl, hS, fun p1 hp1 => ⟨p1, rfl, ⟨_, SqL.of upd_same⟩, fun p hp => ?_⟩⟩
  refine lc_ints (cap := []) ns (fun n => n - 10 ^ (18 : Int).toNat) (fun n => decide ((10 : Int) ^ (18 : Int).toNat ≤ n)) (by omega) (SqL.of (by rw [upd_same, cut])) hp ?_ ?_ ?_ ?_
  · rfl
  · exact fun n H' R s r => ⟨_, rfl, _, _, rfl, rfl, pw10 (by decide) (by decide), _, _, rfl, rfl, _, rfl, r⟩
  · exact fun n H' R s r => ⟨_, rfl, _, _, rfl, rfl, pw10 (by decide) (by decide), _, _, rfl, rfl, r⟩
  intro H1 s1 h1
  have t1 : Same H H1 := (same_new hp1 _).trans s1
  have pn1 : H p = none := (same_new hp1 _).free hp
  refine ⟨_, rfl, _, rfl, a, _, rfl, t1.seq hS, fun p2 hp2 => ⟨p2, rfl, ⟨_, SqL.of upd_same⟩, fun p' hp' => ?_⟩⟩
  refine lc_ints (cap := []) ns (fun n => n % 10 ^ (18 : Int).toNat) (fun n => decide (n < (10 : Int) ^ (18 : Int).toNat)) (by omega) (SqL.of (by rw [upd_same, cut])) hp' ?_ ?_ ?_ ?_
  · rfl
  · exact fun n H' R s r => ⟨_, rfl, _, _, rfl, rfl, pw10 (by decide) (by decide), _, _, rfl, rfl, _, rfl, r⟩
  · exact fun n H' R s r => ⟨_, rfl, _, _, rfl, rfl, pw10 (by decide) (by decide), _, _, rfl, rfl, (by show (0 : Int) < 10 ^ (18 : Int).toNat; decide), r⟩
  intro H2 s2 h2
  have t12 : Same H1 H2 := (same_new hp2 _).trans s2
  have t2 : Same H H2 := t1.trans t12
  have g2 := t12 _ _ h1
  have lb : ∀ x ∈ (ns.filter fun n => decide (n < (10 : Int) ^ (18 : Int).toNat)).map (fun n => n % 10 ^ (18 : Int).toNat), 0 ≤ x ∧ x < 10 ^ 18 := fun x hx => by
    obtain ⟨y, _, rfl⟩ := List.mem_map.mp hx
    rw [e18]
    exact ⟨Int.emod_nonneg _ (by decide), Int.emod_lt_of_pos _ (by decide)⟩
  have ll := List.length_filter_le (fun n => decide (n < (10 : Int) ^ (18 : Int).toNat)) ns
  have gg := List.length_filter_le (fun n => decide ((10 : Int) ^ (18 : Int).toNat ≤ n)) ns
  generalize hls : (ns.filter fun n => decide (n < (10 : Int) ^ (18 : Int).toNat)).map (fun n => n % 10 ^ (18 : Int).toNat) = ls at *
  have lz : ls.length ≤ 63 := by rw [← hls, List.length_map]; omega
  have gz : ((ns.filter fun n => decide ((10 : Int) ^ (18 : Int).toNat ≤ n)).map fun n => n - 10 ^ (18 : Int).toNat).length ≤ 63 := by rw [List.length_map]; omega
  refine ⟨_, rfl, p', rfl, ⟨_, SqL.of h2⟩, for_list (K := K) (a := p') (xs := ls.map V.int) (fun i σ H' => ∃ (st : Int) (x4 : Option V), σ = [some (.ref a), some (.ref p), some (.ref p'), some (.int st), x4] ∧ H' = H2 ∧ 0 ≤ st ∧ st < bigM) ⟨5, none, rfl, rfl, by decide, by decide⟩ (fun i σ H' _ ⟨_, _, _, e, _⟩ => by rw [e]; exact SqL.of h2) ?_ ?_⟩
  · rintro i x σ H' hx ⟨st, x4, rfl, rfl, z0, z1⟩
    rw [List.getElem?_map] at hx
    cases hn : ls[i]? with
    | none => rw [hn] at hx; cases hx
    | some y =>
      rw [hn] at hx
      obtain rfl : V.int y = x := Option.some.inj hx
      obtain ⟨y0, y1⟩ := lb y (List.mem_of_getElem? hn)
      have big : (st + y + 1).natAbs < 2 ^ 1000 := by
        have : (st + y + 1).natAbs < 2 ^ 100 := by unfold bigM at z1; omega
        exact Nat.lt_of_lt_of_le this (by decide)
      refine ⟨_, rfl, _, rfl, _, _, rfl, rfl, _, _, rfl, rfl, _, _, rfl, rfl, ⟨by decide, by decide, big⟩, _, _, rfl, rfl, (by show (0 : Int) < 618970019642690137449562111; decide), _, _, rfl, rfl, Int.emod_nonneg _ (by decide), Int.emod_lt_of_pos _ (by decide)⟩
  · rintro σ H' ⟨st, x4, rfl, rfl, z0, z1⟩
    refine ⟨_, rfl, _, rfl, (by show 1 ≤ sizeLine; decide), fun p3 hp3 => ?_⟩
    have s3 := same_new hp3 (.lst [V.int 0])
    refine ⟨p', p3, _, _, rfl, rfl, s3 _ _ h2, upd_same, (by rw [List.length_map, List.length_singleton]; exact small (by omega)), fun p4 hp4 => ?_⟩
    have s4 := same_new hp4 (.lst (ls.map V.int ++ [V.int 0]))
    refine ⟨_, rfl, (by show 4 ≤ sizeLine; decide), fun p5 hp5 => ?_⟩
    have s5 := same_new hp5 (.lst [V.ref p, V.ref p4, V.int 0, V.int st])
    have t5 : Same H' _ := s3.trans (s4.trans s5)
    have n4 : H' p4 = none := s3.free hp4
    refine q p5 p p4 _ ⟨⟨_, ls ++ [0], 0, st, upd_same, t5 _ _ g2, ?_, gz, by simp, by rw [List.length_append]; simp; omega, ?_, by decide, by decide, z0, z1⟩, ?_⟩ (t2.trans t5) (t2.free ((s3.trans s4).free hp5)) pn1
    · refine s5 _ _ ?_
      rw [upd_same, List.map_append]
      rfl
    · intro x hx
      rcases List.mem_append.mp hx with z | z
      · exact lb x z
      · rw [List.mem_singleton.mp z]; exact ⟨by decide, by decide⟩
    · exact ne_of_none g2 n4

theorem sc_law_draw : FnScope ["bag", "many", "found", "cell"] ["bag", "many"] (defScope s_law_draw) := ⟨rfl, rfl, rfl, by decide +kernel, rfl, by decide +kernel, by decide +kernel⟩
theorem ok_law_draw {f : Addr} {fd : FuncData} (F : Fun K "_law_draw" "_law_draw" s_law_draw f fd) (B : Bl mg) {t_MOST_LETTERS : Tok} (C_MOST_LETTERS : mg "MOST_LETTERS" = some (.int 8 t_MOST_LETTERS))  : FnOk P w K mg base CX0 1 f fd ["bag", "many"] (spDraw) := by
  refine F.ok sc_law_draw (fun vs H Q E h => ?_) (fun cdv A outer s H vs Q E hr h => ?_)
  · obtain ⟨b, g, l, n, many, rfl, Bg, hn, hm, hm2, q⟩ := h
    rfl
  obtain ⟨b, g, l, n, many, rfl, Bg, hn, hm, hm2, q⟩ := h
  refine ⟨_, (pss_cons (ps_while PassesOwn.never (PW.pt (pw_and (pt_cmpR (op_neD (roomD_of hr)) (pe_ix ix_list (pv 0) pe_int (fun _ _ => rfl)) (pe_lst pa_nil) (nomark _)) (pw_and1 (pt_cmpR op_eq (pe_ix ix_list (pe_ix ix_list (pv 0) pe_int (fun _ _ => rfl)) pe_int (fun _ _ => rfl)) pe_int (nomark _))))) (pss_one (ps_expr (pe_bm PySem.F.plainAttrs_list PySem.F.slot_list_pop PySem.F.type_list_pop mt_popAt (pe_ix ix_list (pv 0) pe_int (fun _ _ => rfl)) (pa_cons pe_int pa_nil)))))
      (pss_cons (ps_if (pt_cmpR (op_neD (roomD_of hr)) (pe_ix ix_list (pv 0) pe_int (fun _ _ => rfl)) (pe_lst pa_nil) (nomark _)) (pss_cons (ps_set (i := 2) sc_law_draw.nd rfl (Or.inl rfl) (pe_op op_mod (pe_ix ix_list (pe_ix ix_list (pv 0) pe_int (fun _ _ => rfl)) pe_int (fun _ _ => rfl)) (pv 1)))
      (pss_cons (ps_asg (pe_op op_fdivW (pe_ix ix_list (pe_ix ix_list (pv 0) pe_int (fun _ _ => rfl)) pe_int (fun _ _ => rfl)) (pv 1)) (pg_sub (pe_ix ix_list (pv 0) pe_int (fun _ _ => rfl)) pe_int set_list))
      (pss_one (ps_ret (pv 2))))) pss_nil)
      (pss_cons (ps_asg (pe_op op_add (pe_ix ix_list (pv 0) pe_int (fun _ _ => rfl)) pe_int) (pg_sub (pv 0) pe_int set_list))
      (pss_cons (ps_set (i := 3) sc_law_draw.nd rfl (Or.inl rfl) (pe_ix ix_list (pe_ix ix_list (pv 0) pe_int (fun _ _ => rfl)) (pe_op op_mod (pe_ix ix_list (pv 0) pe_int (fun _ _ => rfl)) (pe_callB call_len_seq rfl B.len_ bt_len (pa_cons (pe_ix ix_list (pv 0) pe_int (fun _ _ => rfl)) pa_nil))) (fun _ _ => rfl)))
      (pss_cons (ps_asg (pe_op op_mod (pe_op op_powB (pe_op op_add (pe_ix ix_list (pv 0) pe_int (fun _ _ => rfl)) (pe_op op_mul (pe_op op_add (pv 3) (pe_op op_mul pe_int (pe_ix ix_list (pv 0) pe_int (fun _ _ => rfl)))) (pe_op op_add (pe_op op_mul pe_int (pe_ix ix_list (pv 0) pe_int (fun _ _ => rfl))) pe_int))) pe_int) pe_int) (pg_sub (pv 0) pe_int set_list))
      (pss_one (ps_ret (pe_op op_mod (pe_op op_fdivW (pe_ix ix_list (pv 0) pe_int (fun _ _ => rfl)) pe_int) (pv 1))))))))), ?_⟩
  refine while_then (fun m σ H1 => σ = [some (.ref b), some (.int many), none, none] ∧ Bag H1 b g l n ∧ SameB b g H H1 ∧ ∃ gs : List Int, H1 g = some (.lst (gs.map V.int)) ∧ gs.length = m)
    (fun σ H1 => σ = [some (.ref b), some (.int many), none, none] ∧ Bag H1 b g l n ∧ SameB b g H H1) ?_ ?_ ?_
  · obtain ⟨gs, ls, c, st, e1, e2, _⟩ := Bg.ex
    exact ⟨_, rfl, Bg, SameB.refl _ _ _, gs, e2, rfl⟩
  · rintro m σ H1 Z ⟨rfl, B1, S1, gs, e2, rfl⟩ hZ
    obtain ⟨gs', ls, c, st, e1, e2', e3, z1, z2, z3, z4, z5, z6, z7, z8⟩ := id B1.ex
    obtain rfl : gs = gs' := by
      rw [e2] at e2'
      injection e2' with e2'
      injection e2' with e2'
      exact (List.map_inj_right (fun _ _ z => by injection z)).mp e2'
    refine ⟨_, rfl, b, _, 0, _, rfl, rfl, SqL.of e1, rfl, sz0, fun p hp => ?_⟩
    have s1 := same_new hp (.lst [])
    refine neNil (SqL.of (s1 _ _ e2)) (SqL.of upd_same) ⟨_, rfl, ?_⟩
    cases gs with
    | nil => exact iteF (iteF (hZ _ _ ⟨rfl, B1.same s1, S1.trans s1.sameB⟩))
    | cons x r =>
      refine iteT ?_
      refine ⟨_, rfl, b, _, 0, _, rfl, rfl, SqL.of (s1 _ _ e1), rfl, g, _, 0, _, rfl, rfl, SqL.of (s1 _ _ e2), at0, rfl, _, rfl, ?_⟩
      refine ite2 (fun hx => ?_) (fun hx => ?_)
      · refine ⟨fun σ H2 => σ = [some (.ref b), some (.int many), none, none] ∧ Bag H2 b g l n ∧ SameB b g H H2 ∧ ∃ gs : List Int, H2 g = some (.lst (gs.map V.int)) ∧ gs.length = r.length, fun σ H2 z => ⟨r.length, Nat.lt_succ_self _, z⟩, ?_⟩
        refine ⟨_, rfl, b, _, 0, _, rfl, rfl, SqL.of (s1 _ _ e1), rfl, .inl ⟨rfl, _, SqL.of (s1 _ _ e2)⟩, g, _, 0, 0, _, rfl, rfl, s1 _ _ e2, by decide, by decide, (ixN_seq (ix0 (x := V.int x) (r := r.map V.int))).1, rfl, ?_⟩
        have e4 : (upd (upd H1 p (.lst [])) g (.lst (((x :: r).map V.int).eraseIdx 0))) g = some (.lst (r.map V.int)) := upd_same
        refine ⟨rfl, ⟨⟨r, ls, c, st, ?_, e4, ?_, ?_, z2, z3, z4, z5, z6, z7, z8⟩, B1.gl⟩, ?_, r, e4, rfl⟩
        · rw [upd_ne B1.bg]; exact s1 _ _ e1
        · rw [upd_ne (Ne.symm B1.gl)]; exact s1 _ _ e3
        · simp only [List.length_cons] at z1; omega
        · intro a o h1 h2 h3
          rw [upd_ne h3]
          exact s1 _ _ (S1 a o h1 h2 h3)
      · exact hZ _ _ ⟨rfl, B1.same s1, S1.trans s1.sameB⟩
  · rintro σ H1 ⟨rfl, B1, S1⟩
    obtain ⟨gs, ls, c, st, e1, e2, e3, z1, z2, z3, z4, z5, z6, z7, z8⟩ := id B1.ex
    refine ⟨_, rfl, b, _, 0, _, rfl, rfl, SqL.of e1, rfl, sz0, fun p hp => ?_⟩
    have s1 := same_new hp (.lst [])
    have B2 := B1.same s1
    have e1' := s1 _ _ e1
    have e2' := s1 _ _ e2
    have e3' := s1 _ _ e3
    refine neNil (SqL.of e2') (SqL.of upd_same) ⟨_, rfl, ?_⟩
    generalize upd H1 p (.lst []) = H2 at *
    have S2 : SameB b g H H2 := S1.trans s1.sameB
    clear s1
    cases gs with
    | cons x r =>
      refine iteT ?_
      refine ⟨_, rfl, b, _, 0, _, rfl, rfl, SqL.of e1', rfl, g, _, 0, _, rfl, rfl, SqL.of e2', at0, _, rfl, _, _, rfl, rfl, hm, ?_⟩
      refine ⟨_, rfl, b, _, 0, _, rfl, rfl, SqL.of e1', rfl, g, _, 0, _, rfl, rfl, SqL.of e2', at0, _, rfl, _, _, rfl, rfl, ⟨hm, Int.lt_of_lt_of_le hm2 (by decide)⟩, ?_⟩
      refine ⟨_, rfl, b, _, 0, _, rfl, rfl, SqL.of e1', rfl, g, _, 0, 0, rfl, rfl, e2', ix0, ?_⟩
      refine ⟨_, rfl, ?_⟩
      refine q _ _ (Int.emod_nonneg _ (by omega)) (Int.emod_lt_of_pos _ hm) ⟨⟨x / many :: r, ls, c, st, ?_, ?_, ?_, z1, z2, z3, z4, z5, by omega, z7, z8⟩, B1.gl⟩ ?_
      · rw [upd_ne B1.bg]; exact e1'
      · exact upd_same
      · rw [upd_ne (Ne.symm B1.gl)]; exact e3'
      · intro a o h1 h2 h3
        rw [upd_ne h3]
        exact S2 a o h1 h2 h3
    | nil =>
      refine iteF ?_
      -- bag[2] = bag[2] + 1
      refine ⟨_, rfl, b, _, 2, _, rfl, rfl, SqL.of e1', rfl, _, _, rfl, rfl, _, rfl, b, _, 2, 2, rfl, rfl, e1', rfl, ?_⟩
      have f1 : (upd H2 b (.lst ([V.ref g, V.ref l, V.int c, V.int st].set 2 (V.int (c + 1))))) b = some (.lst [V.ref g, V.ref l, V.int (c + 1), V.int st]) := upd_same
      have f2 : (upd H2 b (.lst ([V.ref g, V.ref l, V.int c, V.int st].set 2 (V.int (c + 1))))) g = some (.lst []) := by rw [upd_ne (Ne.symm B1.bg)]; exact e2'
      have f3 : (upd H2 b (.lst ([V.ref g, V.ref l, V.int c, V.int st].set 2 (V.int (c + 1))))) l = some (.lst (ls.map V.int)) := by rw [upd_ne (Ne.symm B1.bl)]; exact e3'
      have S3 : SameB b g H (upd H2 b (.lst ([V.ref g, V.ref l, V.int c, V.int st].set 2 (V.int (c + 1))))) := fun a o h1 h2 h3 => by rw [upd_ne h2]; exact S2 a o h1 h2 h3
      generalize upd H2 b (.lst ([V.ref g, V.ref l, V.int c, V.int st].set 2 (V.int (c + 1)))) = H3 at *
      -- cell = bag[1][bag[2] % len(bag[1])]
      have lpos : (0 : Int) < ((ls.map V.int).length : Int) := by rw [List.length_map]; omega
      have i0 := Int.emod_nonneg (c + 1) (Int.ne_of_gt lpos)
      have i1 := Int.emod_lt_of_pos (c + 1) lpos
      obtain ⟨v, hv, hvm⟩ := atInts (ls := ls) i0 (by rw [List.length_map] at i1 ⊢; exact i1)
      obtain ⟨v0, v1⟩ := z4 v hvm
      refine ⟨_, rfl, b, _, 1, _, rfl, rfl, SqL.of f1, rfl, _, rfl, b, _, 2, _, rfl, rfl, SqL.of f1, rfl, _, rfl, b, _, 1, _, rfl, rfl, SqL.of f1, rfl, l, _, rfl, .inl (SqL.of f3), _, _, rfl, rfl, lpos, l, _, _, _, rfl, rfl, SqL.of f3, hv, ?_⟩
      -- the stir
      have c1 : 0 ≤ c + 1 := by omega
      have c2 : c + 1 ≤ 2 ^ 41 := by omega
      refine ⟨_, rfl, b, _, 3, _, rfl, rfl, SqL.of f1, rfl, _, rfl, _, rfl, b, _, 2, _, rfl, rfl, SqL.of f1, rfl, _, _, rfl, rfl, .inl ⟨by decide, by decide⟩, _, _, rfl, rfl, _, rfl, b, _, 2, _, rfl, rfl, SqL.of f1, rfl, _, _, rfl, rfl, .inl ⟨by decide, by decide⟩, _, _, rfl, rfl, _, _, rfl, rfl, .inr ⟨by omega, by omega⟩, _, _, rfl, rfl, ?_⟩
      have big : (st + (v + 3 * (c + 1)) * (2 * (c + 1) + 1)).natAbs < 2 ^ 1000 := by
        have a1 : 0 ≤ v + 3 * (c + 1) := by omega
        have a2 : v + 3 * (c + 1) ≤ 2 ^ 61 := by omega
        have a3 : 0 ≤ 2 * (c + 1) + 1 := by omega
        have a4 : 2 * (c + 1) + 1 ≤ 2 ^ 43 := by omega
        have a5 : (v + 3 * (c + 1)) * (2 * (c + 1) + 1) ≤ 2 ^ 61 * 2 ^ 43 := Int.mul_le_mul a2 a4 a3 (by decide)
        have a6 : 0 ≤ (v + 3 * (c + 1)) * (2 * (c + 1) + 1) := Int.mul_nonneg a1 a3
        generalize (v + 3 * (c + 1)) * (2 * (c + 1) + 1) = y at *
        have a7 : st + y < 2 ^ 105 := by unfold bigM at z8; omega
        have a8 : (st + y).natAbs < 2 ^ 105 := by omega
        exact Nat.lt_of_lt_of_le a8 (by decide)
      refine ⟨_, _, rfl, rfl, ⟨by decide, by decide, big⟩, _, _, rfl, rfl, (by show (0 : Int) < 618970019642690137449562111; decide), ?_⟩
      dsimp only
      generalize (st + (v + 3 * (c + 1)) * (2 * (c + 1) + 1)) ^ (7 : Int).toNat = y
      refine ⟨_, rfl, b, _, 3, 3, rfl, rfl, f1, rfl, ?_⟩
      dsimp only
      have y0 := Int.emod_nonneg y (show (618970019642690137449562111 : Int) ≠ 0 by decide)
      have y1 := Int.emod_lt_of_pos y (show (0 : Int) < 618970019642690137449562111 by decide)
      generalize y % 618970019642690137449562111 = u at *
      have k1 : (upd H3 b (.lst ([V.ref g, V.ref l, V.int (c + 1), V.int st].set 3 (V.int u)))) b = some (.lst [V.ref g, V.ref l, V.int (c + 1), V.int u]) := upd_same
      refine ⟨_, rfl, b, _, 3, _, rfl, rfl, SqL.of k1, rfl, _, _, rfl, rfl, ⟨by decide, by decide⟩, _, rfl, _, _, rfl, rfl, hm, ?_⟩
      refine q _ _ (Int.emod_nonneg _ (by omega)) (Int.emod_lt_of_pos _ hm) ⟨⟨[], ls, c + 1, u, k1, ?_, ?_, z1, z2, z3, z4, c1, by omega, y0, y1⟩, B1.gl⟩ ?_
      · rw [upd_ne (Ne.symm B1.bg)]; exact f2
      · rw [upd_ne (Ne.symm B1.bl)]; exact f3
      · intro a o h1 h2 h3
        rw [upd_ne h2]
        exact S3 a o h1 h2 h3

theorem sc_law_number : FnScope ["bag", "choice", "number"] ["bag"] (defScope s_law_number) := ⟨rfl, rfl, rfl, by decide +kernel, rfl, by decide +kernel, by decide +kernel⟩
theorem ok_law_number {f : Addr} {fd : FuncData} (F : Fun K "_law_number" "_law_number" s_law_number f fd) (B : Bl mg) {t_MOST_LETTERS : Tok} (C_MOST_LETTERS : mg "MOST_LETTERS" = some (.int 8 t_MOST_LETTERS)) (G_law_draw : FnH P w K mg base 1 "_law_draw" ["bag", "many"] (spDraw)) : FnOk P w K mg base CX0 2 f fd ["bag"] (spNumber) := by
  refine F.ok sc_law_number (fun vs H Q E h => ?_) (fun cdv A outer s H vs Q E hr h => ?_)
  · obtain ⟨b, g, l, n, rfl, Bg, hn, q⟩ := h
    rfl
  obtain ⟨b, g, l, n, rfl, Bg, hn, q⟩ := h
  refine ⟨_, (pss_cons (ps_set (i := 1) sc_law_number.nd rfl (Or.inl rfl) (pe_fn G_law_draw (hr.mono (by decide)) rfl (pa_cons (pv 0) (pa_cons pe_int pa_nil))))
      (pss_cons (ps_if (pt_cmpR op_eq (pv 1) pe_int (nomark _)) (pss_one (ps_ret (pe_op op_sub (pe_fn G_law_draw (hr.mono (by decide)) rfl (pa_cons (pv 0) (pa_cons pe_int pa_nil))) pe_int))) pss_nil)
      (pss_cons (ps_if (pt_cmpR op_eq (pv 1) pe_int (nomark _)) (pss_one (ps_ret (pe_op op_sub (pe_fn G_law_draw (hr.mono (by decide)) rfl (pa_cons (pv 0) (pa_cons pe_int pa_nil))) pe_int))) pss_nil)
      (pss_cons (ps_if (pt_cmpR op_eq (pv 1) pe_int (nomark _)) (pss_one (ps_ret (pe_op op_mul (pe_ix ix_list (pe_lst (pa_cons pe_int (pa_cons (pe_un un_neg pe_int) pa_nil))) (pe_fn G_law_draw (hr.mono (by decide)) rfl (pa_cons (pv 0) (pa_cons pe_int pa_nil))) (fun _ _ => rfl)) (pe_op op_sub (pe_op op_sub (pe_op op_powB pe_int pe_int) pe_int) (pe_fn G_law_draw (hr.mono (by decide)) rfl (pa_cons (pv 0) (pa_cons pe_int pa_nil))))))) pss_nil)
      (pss_cons (ps_set (i := 2) sc_law_number.nd rfl (Or.inl rfl) (pe_fn G_law_draw (hr.mono (by decide)) rfl (pa_cons (pv 0) (pa_cons (pe_op op_powB pe_int pe_int) pa_nil))))
      (pss_one (ps_ret (pe_ifExp (pt_cmpR op_eq (pv 1) pe_int (nomark _)) (pv 2) (pe_op op_sub pe_int (pv 2)))))))))), ?_⟩
  refine ⟨_, rfl, b, g, l, n, 5, rfl, Bg, by omega, by decide, by decide, fun c H1 c0 c1 B1 S1 => ?_⟩
  refine ⟨_, rfl, rfl, _, rfl, ite2 (fun _ => ?_) (fun _ => ?_)⟩
  · exact ⟨_, rfl, b, g, l, _, 9, rfl, B1, by omega, by decide, by decide, fun r H2 r0 r1 B2 S2 => ⟨_, _, rfl, rfl, q _ _ (by show -1000000000000000 < r - 4; omega) (by show r - 4 < 1000000000000000; omega) (B2.mono (by omega)) (S1.trans S2)⟩⟩
  refine ⟨_, rfl, rfl, _, rfl, ite2 (fun _ => ?_) (fun _ => ?_)⟩
  · exact ⟨_, rfl, b, g, l, _, 2000, rfl, B1, by omega, by decide, by decide, fun r H2 r0 r1 B2 S2 => ⟨_, _, rfl, rfl, q _ _ (by show -1000000000000000 < r - 1000; omega) (by show r - 1000 < 1000000000000000; omega) (B2.mono (by omega)) (S1.trans S2)⟩⟩
  refine ⟨_, rfl, rfl, _, rfl, ite2 (fun _ => ?_) (fun _ => ?_)⟩
  · refine ⟨_, rfl, (by show 2 ≤ sizeLine; decide), fun p hp => ?_⟩
    have s1 := same_new hp (.lst [V.int 1, V.int (-1)])
    obtain ⟨pb, pg, _⟩ := B1.free hp
    refine ⟨_, rfl, b, g, l, _, 2, rfl, B1.same s1, by omega, by decide, by decide, fun r H2 r0 r1 B2 S2 => ?_⟩
    have hr' : r = 0 ∨ r = 1 := by omega
    obtain ⟨v, hv, v0, v1⟩ : ∃ v, atI [V.int 1, V.int (-1)] r = some (.int v) ∧ -1 ≤ v ∧ v ≤ 1 ∧ (v = 1 ∨ v = -1) := by
      rcases hr' with rfl | rfl
      · exact ⟨1, rfl, by decide, by decide, .inl rfl⟩
      · exact ⟨-1, rfl, by decide, by decide, .inr rfl⟩
    refine ⟨p, _, _, _, rfl, rfl, SqL.of (S2 p _ upd_same pb pg), hv, _, _, rfl, rfl, pw10 (by decide) (by decide), _, _, rfl, rfl, _, rfl, b, g, l, _, 3, rfl, B2, by omega, by decide, by decide, fun r3 H3 r30 r31 B3 S3 => ?_⟩
    refine ⟨_, _, rfl, rfl, _, _, rfl, rfl, .inl ⟨by omega, by omega⟩, q _ _ ?_ ?_ (B3.mono (by omega)) ((S1.trans (s1.sameB.trans S2)).trans S3)⟩
    all_goals
      rw [e15]
      rcases v1.2 with rfl | rfl
      all_goals (unfold T15; omega)
  refine ⟨_, rfl, _, _, rfl, rfl, pw10 (by decide) (by decide), b, g, l, _, _, rfl, B1, by omega, by decide, by decide, fun r H2 r0 r1 B2 S2 => ?_⟩
  have r1 : r < T15 := by rw [← e15]; exact r1
  refine ⟨_, rfl, rfl, _, rfl, ite2 (fun _ => ⟨_, rfl, q _ _ (by unfold T15; omega) r1 (B2.mono (by omega)) (S1.trans S2)⟩) (fun _ => ⟨_, rfl, _, _, rfl, rfl, q _ _ (by unfold T15 at *; omega) (by unfold T15 at *; omega) (B2.mono (by omega)) (S1.trans S2)⟩)⟩

theorem sc_law_held : FnScope ["number"] ["number"] (defScope s_law_held) := ⟨rfl, rfl, rfl, by decide +kernel, rfl, by decide +kernel, by decide +kernel⟩
theorem ok_law_held {f : Addr} {fd : FuncData} (F : Fun K "_law_held" "_law_held" s_law_held f fd) (B : Bl mg) {t_MOST_LETTERS : Tok} (C_MOST_LETTERS : mg "MOST_LETTERS" = some (.int 8 t_MOST_LETTERS))  : FnOk P w K mg base CX0 1 f fd ["number"] (spHeld) := by
  refine F.ok sc_law_held (fun vs H Q E h => ?_) (fun cdv A outer s H vs Q E hr h => ?_)
  · obtain ⟨i, rfl, q⟩ := h
    rfl
  obtain ⟨i, rfl, q⟩ := h
  refine ⟨_, (pss_one (ps_ret (pe_callB (call_max2 rfl) rfl B.max_ bt_max (pa_cons (pe_op op_sub pe_int (pe_op op_powB pe_int pe_int)) (pa_cons (pe_callB (call_min2 rfl) rfl B.min_ bt_min (pa_cons (pe_op op_sub (pe_op op_powB pe_int pe_int) pe_int) (pa_cons (pv 0) pa_nil))) pa_nil))))), ?_⟩
  exact ⟨_, _, rfl, rfl, pw10 (by decide) (by decide), _, _, rfl, rfl, _, _, rfl, rfl, pw10 (by decide) (by decide), _, _, rfl, rfl, _, rfl, _, _, rfl, _, _, rfl, q⟩

theorem sc_law_span : FnScope ["bag", "choice", "low", "high"] ["bag"] (defScope s_law_span) := ⟨rfl, rfl, rfl, by decide +kernel, rfl, by decide +kernel, by decide +kernel⟩
theorem ok_law_span {f : Addr} {fd : FuncData} (F : Fun K "_law_span" "_law_span" s_law_span f fd) (B : Bl mg) {t_MOST_LETTERS : Tok} (C_MOST_LETTERS : mg "MOST_LETTERS" = some (.int 8 t_MOST_LETTERS)) (G_law_draw : FnH P w K mg base 1 "_law_draw" ["bag", "many"] (spDraw)) (G_law_number : FnH P w K mg base 2 "_law_number" ["bag"] (spNumber)) (G_law_held : FnH P w K mg base 1 "_law_held" ["number"] (spHeld)) : FnOk P w K mg base CX0 3 f fd ["bag"] (spSpan) := by
  refine F.ok sc_law_span (fun vs H Q E h => ?_) (fun cdv A outer s H vs Q E hr h => ?_)
  · obtain ⟨b, g, l, n, rfl, Bg, hn, q⟩ := h
    rfl
  obtain ⟨b, g, l, n, rfl, Bg, hn, q⟩ := h
  refine ⟨_, (pss_cons (ps_set (i := 1) sc_law_span.nd rfl (Or.inl rfl) (pe_fn G_law_draw (hr.mono (by decide)) rfl (pa_cons (pv 0) (pa_cons pe_int pa_nil))))
      (pss_cons (ps_set (i := 2) sc_law_span.nd rfl (Or.inl rfl) (pe_fn G_law_number (hr.mono (by decide)) rfl (pa_cons (pv 0) pa_nil)))
      (pss_cons (ps_if (pt_cmpR op_eq (pv 1) pe_int (nomark _)) (pss_one (ps_ret (pe_tup (pa_cons pe_non (pa_cons pe_non pa_nil))))) pss_nil)
      (pss_cons (ps_if (pt_cmpR op_eq (pv 1) pe_int (nomark _)) (pss_one (ps_ret (pe_tup (pa_cons pe_non (pa_cons (pv 2) pa_nil))))) pss_nil)
      (pss_cons (ps_if (pt_cmpR op_eq (pv 1) pe_int (nomark _)) (pss_one (ps_ret (pe_tup (pa_cons (pv 2) (pa_cons pe_non pa_nil))))) pss_nil)
      (pss_cons (ps_if (pt_cmpR op_eq (pv 1) pe_int (nomark _)) (pss_one (ps_ret (pe_tup (pa_cons (pv 2) (pa_cons (pv 2) pa_nil))))) pss_nil)
      (pss_cons (ps_if (pt_cmpR op_lt (pv 1) pe_int (nomark _)) (pss_one (ps_ret (pe_tup (pa_cons (pv 2) (pa_cons (pe_fn G_law_held (hr.mono (by decide)) rfl (pa_cons (pe_op op_add (pe_op op_add (pv 2) pe_int) (pe_fn G_law_draw (hr.mono (by decide)) rfl (pa_cons (pv 0) (pa_cons pe_int pa_nil)))) pa_nil)) pa_nil))))) pss_nil)
      (pss_cons (ps_set (i := 3) sc_law_span.nd rfl (Or.inl rfl) (pe_fn G_law_number (hr.mono (by decide)) rfl (pa_cons (pv 0) pa_nil)))
      (pss_one (ps_ret (pe_tup (pa_cons (pe_callB (call_min2 rfl) rfl B.min_ bt_min (pa_cons (pv 2) (pa_cons (pv 3) pa_nil))) (pa_cons (pe_callB (call_max2 rfl) rfl B.max_ bt_max (pa_cons (pv 2) (pa_cons (pv 3) pa_nil))) pa_nil))))))))))))), ?_⟩
  have fin : ∀ (lo hi : Option Int) (H2 : Hp), Bag H2 b g l (n + 8) → SameB b g H H2 → Good lo hi → ∀ t, H2 t = none → Q (.ref t) (upd H2 t (.tup [eV lo, eV hi])) := fun lo hi H2 B2 S2 G2 t ht =>
    q _ lo hi _ ⟨t, rfl, upd_same⟩ G2 (B2.same (same_new ht _)) (S2.trans (same_new ht _).sameB)
  have none_in : inT none := fun i z => by cases z
  refine ⟨_, rfl, b, g, l, n, 7, rfl, Bg, by omega, by decide, by decide, fun c H1 c0 c1 B1 S1 => ?_⟩
  refine ⟨_, rfl, b, g, l, _, rfl, B1, by omega, fun x H2 x0 x1 B2 S2 => ?_⟩
  have S3 := S1.trans S2
  have B3 : Bag H2 b g l (n + 8) := B2.mono (by omega)
  have x_in : inT (some x) := fun i z => by injection z with z; subst z; exact ⟨x0, x1⟩
  refine ⟨_, rfl, rfl, _, rfl, ite2 (fun _ => ⟨(by show 2 ≤ sizeLine; decide), fin none none _ B3 S3 ⟨rfl, none_in, none_in⟩⟩) (fun _ => ?_)⟩
  refine ⟨_, rfl, rfl, _, rfl, ite2 (fun _ => ⟨_, rfl, (by show 2 ≤ sizeLine; decide), fin none (some x) _ B3 S3 ⟨rfl, none_in, x_in⟩⟩) (fun _ => ?_)⟩
  refine ⟨_, rfl, rfl, _, rfl, ite2 (fun _ => ⟨_, rfl, (by show 2 ≤ sizeLine; decide), fin (some x) none _ B3 S3 ⟨rfl, x_in, none_in⟩⟩) (fun _ => ?_)⟩
  refine ⟨_, rfl, rfl, _, rfl, ite2 (fun _ => ⟨_, rfl, _, rfl, (by show 2 ≤ sizeLine; decide), fin (some x) (some x) _ B3 S3 ⟨decide_eq_true (Int.le_refl x), x_in, x_in⟩⟩) (fun _ => ?_)⟩
  refine ⟨_, rfl, _, _, rfl, rfl, _, rfl, ite2 (fun _ => ?_) (fun _ => ?_)⟩
  · refine ⟨_, rfl, _, rfl, _, _, rfl, rfl, _, rfl, b, g, l, _, 12, rfl, B2, by omega, by decide, by decide, fun r H4 r0 r1 B4 S4 => ?_⟩
    refine ⟨_, _, rfl, rfl, _, rfl, (by show 2 ≤ sizeLine; decide), ?_⟩
    have hh := heldF_eq (x + 1 + r)
    refine fin (some x) (some (heldF (x + 1 + r))) _ (B4.mono (by omega)) (S3.trans S4) ⟨decide_eq_true ?_, x_in, fun i z => ?_⟩
    · unfold T15 at *; omega
    · injection z with z; subst z; unfold T15 at *; omega
  · refine ⟨_, rfl, b, g, l, _, rfl, B2, by omega, fun y H4 y0 y1 B4 S4 => ?_⟩
    refine ⟨_, rfl, _, rfl, _, _, rfl, _, rfl, _, rfl, _, _, rfl, (by show 2 ≤ sizeLine; decide), ?_⟩
    refine fin (some (if y < x then y else x)) (some (if y > x then y else x)) _ (B4.mono (by omega)) (S3.trans S4) ⟨decide_eq_true ?_, fun i z => ?_, fun i z => ?_⟩
    · split <;> split <;> omega
    · injection z with z; subst z; split <;> omega
    · injection z with z; subst z; split <;> omega

theorem sc_law_whole : FnScope ["found"] ["found"] (defScope s_law_whole) := ⟨rfl, rfl, rfl, by decide +kernel, rfl, by decide +kernel, by decide +kernel⟩
theorem ok_law_whole {f : Addr} {fd : FuncData} (F : Fun K "_law_whole" "_law_whole" s_law_whole f fd) (B : Bl mg) {t_MOST_LETTERS : Tok} (C_MOST_LETTERS : mg "MOST_LETTERS" = some (.int 8 t_MOST_LETTERS))  : FnOk P w K mg base CX0 1 f fd ["found"] (spWhole K) := by
  refine F.ok sc_law_whole (fun vs H Q E h => ?_) (fun cdv A outer s H vs Q E hr h => ?_)
  · obtain ⟨v, t, rfl, hty, q⟩ := h
    rfl
  obtain ⟨v, t, rfl, hty, q⟩ := h
  refine ⟨_, (pss_one (ps_ret (pe_and (pe_callB (call_isinst (n := "")) rfl B.isinstance_ bt_isinstance (pa_cons (pv 0) (pa_cons (pe_bltn (v := .ty "int") rfl B.int_ bt_int rfl) pa_nil))) (pe_one (pe_not (pe_callB (call_isinst (n := "")) rfl B.isinstance_ bt_isinstance (pa_cons (pv 0) (pa_cons (pe_bltn (v := .ty "bool") rfl B.bool_ bt_bool rfl) pa_nil)))))))), ?_⟩
  cases hty
  all_goals first
    | exact ⟨_, rfl, _, "int", "int", true, rfl, .int _, rfl, _, rfl, iteT ⟨_, rfl, _, "int", "bool", false, rfl, .int _, rfl, _, rfl, q⟩⟩
    | exact ⟨_, rfl, _, "bool", "int", true, rfl, .bl _, rfl, _, rfl, iteT ⟨_, rfl, _, "bool", "bool", true, rfl, .bl _, rfl, _, rfl, q⟩⟩
    | exact ⟨_, rfl, _, _, "int", false, rfl, (by first | exact .non | exact .str _ | exact .flt _ | (exact .lst (by assumption)) | (exact .frz (by assumption)) | (exact .tup (by assumption)) | (exact .dK (by assumption)) | (exact .dT (by assumption))), rfl, _, rfl, iteF q⟩

theorem sc_law_in : FnScope ["span", "number"] ["span", "number"] (defScope s_law_in) := ⟨rfl, rfl, rfl, by decide +kernel, rfl, by decide +kernel, by decide +kernel⟩
theorem ok_law_in {f : Addr} {fd : FuncData} (F : Fun K "_law_in" "_law_in" s_law_in f fd) (B : Bl mg) {t_MOST_LETTERS : Tok} (C_MOST_LETTERS : mg "MOST_LETTERS" = some (.int 8 t_MOST_LETTERS))  : FnOk P w K mg base CX0 1 f fd ["span", "number"] (spIn) := by
  refine F.ok sc_law_in (fun vs H Q E h => ?_) (fun cdv A outer s H vs Q E hr h => ?_)
  · obtain ⟨v, lo, hi, k, rfl, S1, q⟩ := h
    rfl
  obtain ⟨v, lo, hi, k, rfl, S1, q⟩ := h
  refine ⟨_, (pss_cons (ps_if (PW.pt (pw_and (pt_cmp (pc_notN (pe_ix ix_tup (pv 0) pe_int (fun _ _ => rfl)))) (pw_and1 (pt_cmpR op_lt (pv 1) (pe_ix ix_tup (pv 0) pe_int (fun _ _ => rfl)) (nomark _))))) (pss_one (ps_ret pe_bl)) pss_nil)
      (pss_one (ps_ret (pe_or (pe_cmp (pc_isN (pe_ix ix_tup (pv 0) pe_int (fun _ _ => rfl)))) (pe_one (pe_cmpR op_le (pv 1) (pe_ix ix_tup (pv 0) pe_int (fun _ _ => rfl)) (nomark _))))))), ?_⟩
  obtain ⟨a, rfl, e1⟩ := S1
  refine ⟨_, rfl, a, _, 0, _, rfl, rfl, SqT.of e1, rfl, _, rfl, ?_⟩
  cases lo with
  | none =>
    refine iteF (iteF ⟨_, rfl, a, _, 1, _, rfl, rfl, SqT.of e1, rfl, _, rfl, ?_⟩)
    cases hi with
    | none => exact iteT q
    | some h => exact iteF ⟨_, rfl, _, rfl, a, _, 1, _, rfl, rfl, SqT.of e1, rfl, _, _, rfl, rfl, q⟩
  | some l =>
    refine iteT ⟨_, rfl, _, rfl, a, _, 0, _, rfl, rfl, SqT.of e1, rfl, _, _, rfl, rfl, _, rfl, ?_⟩
    refine ite2 (fun h => ?_) (fun h => ?_)
    · have h : k < l := of_decide_eq_true h
      have z : inB (some l) hi k = false := by
        simp only [inB, loB]
        rw [decide_eq_false (by omega)]
        rfl
      rw [z] at q
      exact q
    · have h : ¬ k < l := fun z => h (decide_eq_true z)
      have z : inB (some l) hi k = hiB hi k := by
        simp only [inB, loB]
        rw [decide_eq_true (by omega)]
        exact Bool.true_and _
      rw [z] at q
      refine ⟨_, rfl, a, _, 1, _, rfl, rfl, SqT.of e1, rfl, _, rfl, ?_⟩
      cases hi with
      | none => exact iteT q
      | some h => exact iteF ⟨_, rfl, _, rfl, a, _, 1, _, rfl, rfl, SqT.of e1, rfl, _, _, rfl, rfl, q⟩

theorem sc_law_field : FnScope ["bag", "choice", "some"] ["bag"] (defScope s_law_field) := ⟨rfl, rfl, rfl, by decide +kernel, rfl, by decide +kernel, by decide +kernel⟩
theorem ok_law_field {f : Addr} {fd : FuncData} (F : Fun K "_law_field" "_law_field" s_law_field f fd) (B : Bl mg) {t_MOST_LETTERS : Tok} (C_MOST_LETTERS : mg "MOST_LETTERS" = some (.int 8 t_MOST_LETTERS)) (G_law_draw : FnH P w K mg base 1 "_law_draw" ["bag", "many"] (spDraw)) : FnOk P w K mg base CX0 2 f fd ["bag"] (spLawField) := by
  refine F.ok sc_law_field (fun vs H Q E h => ?_) (fun cdv A outer s H vs Q E hr h => ?_)
  · obtain ⟨b, g, l, n, rfl, Bg, hn, q⟩ := h
    rfl
  obtain ⟨b, g, l, n, rfl, Bg, hn, q⟩ := h
  refine ⟨_, (pss_cons (ps_set (i := 1) sc_law_field.nd rfl (Or.inl rfl) (pe_fn G_law_draw (hr.mono (by decide)) rfl (pa_cons (pv 0) (pa_cons pe_int pa_nil))))
      (pss_cons (ps_set (i := 2) sc_law_field.nd rfl (Or.inr rfl) pe_str)
      (pss_cons (ps_if (pt_cmpR op_eq (pv 1) pe_int (nomark _)) (pss_one (ps_ret (pe_bm PySem.F.plainAttrs_str PySem.F.slot_str_join PySem.F.type_str_join mt_join pe_str (pa_cons (pe_lc (N' := ["k", "bag", "some"]) (js := [none, some 0, some 2]) rfl (capOk (N := ["bag", "choice", "some"]) (outer := defScope s_law_field) (by decide +kernel)) (pi_range1 rfl B.range_ (pa_cons (pe_op op_add pe_int (pe_fn G_law_draw (hr.mono (by decide)) rfl (pa_cons (pv 0) (pa_cons pe_int pa_nil)))) pa_nil)) (fun _ _ _ _ _ => (pg_name (i := 0) (show List.Nodup (["k", "bag", "some"] : List Str) by decide +kernel) rfl (Or.inl rfl))) (fun _ _ _ _ _ => pifs_nil) (fun _ _ _ _ _ => (pe_ix ix_str (pv 2) (pe_fn G_law_draw (hr.mono (by decide)) rfl (pa_cons (pv 1) (pa_cons pe_int pa_nil))) (fun _ _ => rfl)))) pa_nil)))) pss_nil)
      (pss_one (ps_ret (pe_bm PySem.F.plainAttrs_str PySem.F.slot_str_join PySem.F.type_str_join mt_join pe_str (pa_cons (pe_lc (N' := ["k", "bag", "some"]) (js := [none, some 0, some 2]) rfl (capOk (N := ["bag", "choice", "some"]) (outer := defScope s_law_field) (by decide +kernel)) (pi_range1 rfl B.range_ (pa_cons (pe_op op_add pe_int (pe_fn G_law_draw (hr.mono (by decide)) rfl (pa_cons (pv 0) (pa_cons pe_int pa_nil)))) pa_nil)) (fun _ _ _ _ _ => (pg_name (i := 0) (show List.Nodup (["k", "bag", "some"] : List Str) by decide +kernel) rfl (Or.inl rfl))) (fun _ _ _ _ _ => pifs_nil) (fun _ _ _ _ _ => (pe_ix ix_str (pv 2) (pe_op op_mul (pe_fn G_law_draw (hr.mono (by decide)) rfl (pa_cons (pv 1) (pa_cons pe_int pa_nil))) pe_int) (fun _ _ => rfl)))) pa_nil))))))), ?_⟩
  refine ⟨_, rfl, b, g, l, n, 3, rfl, Bg, by omega, by decide, by decide, fun c0 H1 c1 c2 B1 S1 => ?_⟩
  refine ⟨_, rfl, rfl, _, rfl, ite2 (fun _ => ?_) (fun _ => ?_)⟩
  · refine ⟨rfl, _, rfl, b, g, l, _, 8, rfl, B1, by omega, by decide, by decide, fun r H2 r0 r1 B2 S2 => ?_⟩
    refine ⟨_, _, rfl, rfl, _, rfl, by omega, by omega, fun p hp => ?_⟩
    obtain ⟨pb, pg, pl⟩ := B2.free hp
    have s3 := same_new hp (.lst [])
    have S12 := S1.trans S2
    refine lc_range (n := (1 + r).toNat) (fun i σ' ys H' => (∃ v, σ' = [v, some (.ref b), some (.str "abcdefghijklmnopqrstuvwxyz")]) ∧ SameB b g H H' ∧ Bag H' b g l (n + 2 + i) ∧ H' p = some (.lst ys) ∧ ∃ cs : List Nat, ys = (cs.map fun c => (⟨#[c]⟩ : Str)).map V.str ∧ cs.length = i ∧ ∀ c ∈ cs, letterOk c = true) ?_ ?_ ?_ ?_
    · exact ⟨⟨none, rfl⟩, S12.trans s3.sameB, (B2.same s3).mono (by omega), upd_same, [], rfl, rfl, fun c hc => by simp at hc⟩
    · rintro i σ' ys H' hi ⟨_, _, _, h1, cs, rfl, h2, _⟩
      exact ⟨h1, by rw [List.length_map, List.length_map, h2]; exact small1000 (by omega)⟩
    · rintro i σ' ys H4 N hi ⟨⟨v, rfl⟩, S4, B4, h1, cs, rfl, h2, h3⟩ hN
      refine ⟨_, rfl, _, rfl, b, g, l, _, 26, rfl, B4, by omega, by decide, by decide, fun k H5 k0 k1 B5 S5 => ?_⟩
      obtain ⟨c, hc, ok⟩ := az_at k0 k1
      have h5 := S5 _ _ h1 pb pg
      refine ⟨_, _, c, rfl, rfl, (by show 26 ≤ sizeLine; decide), hc, h5, hN _ _ _ ⟨⟨_, rfl⟩, ?_, ?_, upd_same, cs ++ [c], ?_, ?_, ?_⟩⟩
      · have np : H p = none := S12.none hp pb pg
        exact (S4.trans S5).off np
      · exact (B5.off pb pg pl).mono (by omega)
      · rw [List.map_append, List.map_append]; rfl
      · rw [List.length_append, h2]; rfl
      · intro c' hc'
        rcases List.mem_append.mp hc' with z | z
        · exact h3 c' z
        · rw [List.mem_singleton.mp z]; exact ok
    · rintro σ' ys H4 ⟨_, S4, B4, h1, cs, rfl, h2, h3⟩
      refine ⟨_, _, _, rfl, rfl, SqL.of h1, join_ok cs (by omega), q _ _ (join_field (by omega) (by omega) h3) (B4.mono (by omega)) S4⟩
  · refine ⟨rfl, _, rfl, b, g, l, _, 4, rfl, B1, by omega, by decide, by decide, fun r H2 r0 r1 B2 S2 => ?_⟩
    refine ⟨_, _, rfl, rfl, _, rfl, by omega, by omega, fun p hp => ?_⟩
    obtain ⟨pb, pg, pl⟩ := B2.free hp
    have s3 := same_new hp (.lst [])
    have S12 := S1.trans S2
    refine lc_range (n := (1 + r).toNat) (fun i σ' ys H' => (∃ v, σ' = [v, some (.ref b), some (.str "abcdefghijklmnopqrstuvwxyz")]) ∧ SameB b g H H' ∧ Bag H' b g l (n + 2 + i) ∧ H' p = some (.lst ys) ∧ ∃ cs : List Nat, ys = (cs.map fun c => (⟨#[c]⟩ : Str)).map V.str ∧ cs.length = i ∧ ∀ c ∈ cs, letterOk c = true) ?_ ?_ ?_ ?_
    · exact ⟨⟨none, rfl⟩, S12.trans s3.sameB, (B2.same s3).mono (by omega), upd_same, [], rfl, rfl, fun c hc => by simp at hc⟩
    · rintro i σ' ys H' hi ⟨_, _, _, h1, cs, rfl, h2, _⟩
      exact ⟨h1, by rw [List.length_map, List.length_map, h2]; exact small1000 (by omega)⟩
    · rintro i σ' ys H4 N hi ⟨⟨v, rfl⟩, S4, B4, h1, cs, rfl, h2, h3⟩ hN
      refine ⟨_, rfl, _, rfl, b, g, l, _, 2, rfl, B4, by omega, by decide, by decide, fun k H5 k0 k1 B5 S5 => ?_⟩
      obtain ⟨c, hc, ok⟩ := az_at (r := k * 25) (by omega) (by omega)
      refine ⟨_, _, rfl, rfl, .inl ⟨by omega, by omega⟩, ?_⟩
      have h5 := S5 _ _ h1 pb pg
      refine ⟨_, _, c, rfl, rfl, (by show 26 ≤ sizeLine; decide), hc, h5, hN _ _ _ ⟨⟨_, rfl⟩, ?_, ?_, upd_same, cs ++ [c], ?_, ?_, ?_⟩⟩
      · have np : H p = none := S12.none hp pb pg
        exact (S4.trans S5).off np
      · exact (B5.off pb pg pl).mono (by omega)
      · rw [List.map_append, List.map_append]; rfl
      · rw [List.length_append, h2]; rfl
      · intro c' hc'
        rcases List.mem_append.mp hc' with z | z
        · exact h3 c' z
        · rw [List.mem_singleton.mp z]; exact ok
    · rintro σ' ys H4 ⟨_, S4, B4, h1, cs, rfl, h2, h3⟩
      refine ⟨_, _, _, rfl, rfl, SqL.of h1, join_ok cs (by omega), q _ _ (join_field (by omega) (by omega) h3) (B4.mono (by omega)) S4⟩

theorem sc_law_fields : FnScope ["bag", "most"] ["bag", "most"] (defScope s_law_fields) := ⟨rfl, rfl, rfl, by decide +kernel, rfl, by decide +kernel, by decide +kernel⟩
theorem ok_law_fields {f : Addr} {fd : FuncData} (F : Fun K "_law_fields" "_law_fields" s_law_fields f fd) (B : Bl mg) {t_MOST_LETTERS : Tok} (C_MOST_LETTERS : mg "MOST_LETTERS" = some (.int 8 t_MOST_LETTERS)) (G_law_field : FnH P w K mg base 2 "_law_field" ["bag"] (spLawField)) (G_law_draw : FnH P w K mg base 1 "_law_draw" ["bag", "many"] (spDraw)) : FnOk P w K mg base CX0 3 f fd ["bag", "most"] (spLawFields) := by
  refine F.ok sc_law_fields (fun vs H Q E h => ?_) (fun cdv A outer s H vs Q E hr h => ?_)
  · obtain ⟨b, g, l, n, most, rfl, Bg, hn, m0, m9, q⟩ := h
    rfl
  obtain ⟨b, g, l, n, most, rfl, Bg, hn, m0, m9, q⟩ := h
  refine ⟨_, (pss_one (ps_ret (pe_sortset rfl (pe_lc (N' := ["k", "bag"]) (js := [none, some 0]) rfl (capOk (N := ["bag", "most"]) (outer := defScope s_law_fields) (by decide +kernel)) (pi_range1 rfl B.range_ (pa_cons (pe_fn G_law_draw (hr.mono (by decide)) rfl (pa_cons (pv 0) (pa_cons (pe_op op_add (pv 1) pe_int) pa_nil))) pa_nil)) (fun _ _ _ _ _ => (pg_name (i := 0) (show List.Nodup (["k", "bag"] : List Str) by decide +kernel) rfl (Or.inl rfl))) (fun _ _ _ _ _ => pifs_nil) (fun _ _ _ _ _ => (pe_fn G_law_field (hr.mono (by decide)) rfl (pa_cons (pv 1) pa_nil)))) rfl B.sorted_ rfl B.set_))), ?_⟩
  have big : most + 1 < 2 ^ 500 := by have : (10 : Int) < 2 ^ 500 := by decide
                                      omega
  refine ⟨_, rfl, _, rfl, _, _, rfl, rfl, b, g, l, n, _, rfl, Bg, by omega, by omega, big, fun r H1 r0 r1 B1 S1 => ?_⟩
  refine ⟨_, rfl, by omega, by omega, fun p hp => ?_⟩
  obtain ⟨pb, pg, pl⟩ := B1.free hp
  have np : H p = none := S1.none hp pb pg
  have s3 := same_new hp (.lst [])
  refine lc_range (n := r.toNat) (fun i σ' ys H' => (∃ v, σ' = [v, some (.ref b)]) ∧ SameB b g H H' ∧ Bag H' b g l (n + 1 + 12 * i) ∧ H' p = some (.lst ys) ∧ ∃ ts : List Str, ys = ts.map V.str ∧ ts.length = i ∧ ∀ t ∈ ts, FieldOk t) ?_ ?_ ?_ ?_
  · exact ⟨⟨none, rfl⟩, S1.trans s3.sameB, (B1.same s3).mono (by omega), upd_same, [], rfl, rfl, fun c hc => by simp at hc⟩
  · rintro i σ' ys H' hi ⟨_, _, _, h1, ts, rfl, h2, _⟩
    exact ⟨h1, by rw [List.length_map, h2]; exact small1000 (by omega)⟩
  · rintro i σ' ys H4 N hi ⟨⟨v, rfl⟩, S4, B4, h1, ts, rfl, h2, h3⟩ hN
    refine ⟨_, rfl, b, g, l, _, rfl, B4, by omega, fun x H5 ok B5 S5 => ?_⟩
    have h5 := S5 _ _ h1 pb pg
    refine ⟨h5, hN _ _ _ ⟨⟨_, rfl⟩, (S4.trans S5).off np, (B5.off pb pg pl).mono (by omega), upd_same, ts ++ [x], ?_, ?_, ?_⟩⟩
    · rw [List.map_append]; rfl
    · rw [List.length_append, h2]; rfl
    · intro c' hc'
      rcases List.mem_append.mp hc' with z | z
      · exact h3 c' z
      · rw [List.mem_singleton.mp z]; exact ok
  · rintro σ' ys H4 ⟨_, S4, B4, h1, ts, rfl, h2, h3⟩
    refine ⟨p, ts, rfl, SqL.of h1, by omega, fun z ms nd mem le so hz => ?_⟩
    obtain ⟨zb, zg, zl⟩ := B4.free hz
    have s5 := same_new hz (.lst (ms.map V.str))
    exact q z ms _ (S4.none hz zb zg) upd_same (sorted_lt so nd) (fun f hf => h3 f ((mem f).mp hf)) (by omega) ((B4.same s5).mono (by omega)) (S4.trans s5.sameB)

theorem sc_law_moved : FnScope ["bag", "span", "ends", "end", "step", "low", "high"] ["bag", "span"] (defScope s_law_moved) := ⟨rfl, rfl, rfl, by decide +kernel, rfl, by decide +kernel, by decide +kernel⟩
theorem ok_law_moved {f : Addr} {fd : FuncData} (F : Fun K "_law_moved" "_law_moved" s_law_moved f fd) (B : Bl mg) {t_MOST_LETTERS : Tok} (C_MOST_LETTERS : mg "MOST_LETTERS" = some (.int 8 t_MOST_LETTERS)) (G_law_draw : FnH P w K mg base 1 "_law_draw" ["bag", "many"] (spDraw)) (G_law_number : FnH P w K mg base 2 "_law_number" ["bag"] (spNumber)) (G_law_held : FnH P w K mg base 1 "_law_held" ["number"] (spHeld)) : FnOk P w K mg base CX0 3 f fd ["bag", "span"] (spMoved) := by
  refine F.ok sc_law_moved (fun vs H Q E h => ?_) (fun cdv A outer s H vs Q E hr h => ?_)
  · obtain ⟨b, g, l, n, w, lo0, hi0, rfl, Bg, Sp, hn, q⟩ := h
    rfl
  obtain ⟨b, g, l, n, w, lo0, hi0, rfl, Bg, Sp, hn, q⟩ := h
  refine ⟨_, (pss_cons (ps_set (i := 2) sc_law_moved.nd rfl (Or.inl rfl) (pe_lst pa_nil))
      (pss_cons (ps_for PassesOwn.never rfl (pi_tup (pv 1)) (pg_name (i := 3) sc_law_moved.nd rfl (Or.inl rfl)) (pss_cons (ps_set (i := 4) sc_law_moved.nd rfl (Or.inl rfl) (pe_fn G_law_draw (hr.mono (by decide)) rfl (pa_cons (pv 0) (pa_cons pe_int pa_nil))))
      (pss_one (ps_if (PW.pt (pw_or (pt_cmpR op_eq (pv 4) pe_int (nomark _)) (pw_or1 (PW.pt (pw_and (pt_cmp (pc_isN (pv 3))) (pw_and1 (pt_cmpR op_gt (pv 4) pe_int (nomark _)))))))) (pss_one (ps_expr (pe_bm PySem.F.plainAttrs_list PySem.F.slot_list_append PySem.F.type_list_append mt_append (pv 2) (pa_cons pe_non pa_nil)))) (pss_one (ps_if (PW.pt (pw_or (pt_cmp (pc_isN (pv 3))) (pw_or1 (pt_cmpR op_eq (pv 4) pe_int (nomark _))))) (pss_one (ps_expr (pe_bm PySem.F.plainAttrs_list PySem.F.slot_list_append PySem.F.type_list_append mt_append (pv 2) (pa_cons (pe_fn G_law_number (hr.mono (by decide)) rfl (pa_cons (pv 0) pa_nil)) pa_nil)))) (pss_one (ps_expr (pe_bm PySem.F.plainAttrs_list PySem.F.slot_list_append PySem.F.type_list_append mt_append (pv 2) (pa_cons (pe_fn G_law_held (hr.mono (by decide)) rfl (pa_cons (pe_op op_sub (pe_op op_add (pv 3) (pv 4)) pe_int) pa_nil)) pa_nil))))))))))
      (pss_cons (ps_asg (pv 2) (pg_lst rfl (pgs_cons (pg_name (i := 5) sc_law_moved.nd rfl (Or.inl rfl)) (pgs_cons (pg_name (i := 6) sc_law_moved.nd rfl (Or.inl rfl)) pgs_nil))))
      (pss_cons (ps_if (PW.pt (pw_and (pt_cmp (pc_notN (pv 5))) (pw_and (pt_cmp (pc_notN (pv 6))) (pw_and1 (pt_cmpR op_gt (pv 5) (pv 6) (nomark _)))))) (pss_one (ps_ret (pe_tup (pa_cons (pv 6) (pa_cons (pv 5) pa_nil))))) pss_nil)
      (pss_one (ps_ret (pe_tup (pa_cons (pv 5) (pa_cons (pv 6) pa_nil))))))))), ?_⟩
  obtain ⟨a, rfl, ea⟩ := Sp
  refine ⟨sz0, fun e he => ?_⟩
  have s1 := same_new he (.lst [])
  obtain ⟨eb, eg, _⟩ := Bg.free he
  have none_in : inT none := fun i z => by cases z
  refine ⟨_, rfl, a, rfl, ⟨_, SqT.of (s1 _ _ ea)⟩, for_tup (K := K) (a := a) (xs := [eV lo0, eV hi0]) (fun i σ H' => ∃ (os : List (Option Int)) (x3 x4 : Option V), σ = [some (.ref b), some (.ref a), some (.ref e), x3, x4, none, none] ∧ Bag H' b g l (n + 4 * (i : Int)) ∧ SameB b g H H' ∧ H' e = some (.lst (os.map eV)) ∧ os.length = i ∧ ∀ o ∈ os, inT o)
    ⟨[], none, none, rfl, (Bg.same s1).mono (by omega), s1.sameB, upd_same, rfl, fun _ z => nomatch z⟩ (fun i σ H' _ ⟨_, _, _, _, _, s2, _⟩ => SqT.of (s2.tup Bg ea)) ?_ ?_⟩
  · rintro i x σ H' hx ⟨os, x3, x4, rfl, B1, S1, ee, eo, ob⟩
    have hi2 : i < 2 := (List.getElem?_eq_some_iff.mp hx).1
    obtain ⟨o0, rfl⟩ : ∃ o0, x = eV o0 := by
      match i, hx with
      | 0, hx => exact ⟨lo0, (Option.some.inj hx).symm⟩
      | 1, hx => exact ⟨hi0, (Option.some.inj hx).symm⟩
    refine ⟨_, rfl, b, g, l, _, 5, rfl, B1, by omega, by decide, by decide, fun st H2 r0 r1 B2 S2 => ?_⟩
    have e2 := S2 e _ ee eb eg
    have lt : (os.map eV).length < sizeLine := by rw [List.length_map]; exact small1000 (by omega)
    have fin : ∀ (o' : Option Int) (H3 : Hp), inT o' → Bag H3 b g l (n + 4 * (i : Int) + 4) → SameB b g H H3 → H3 e = some (.lst (os.map eV)) →
        ∃ (os' : List (Option Int)) (y3 y4 : Option V), [some (V.ref b), some (V.ref a), some (V.ref e), some (eV o0), some (V.int st), none, none] = [some (.ref b), some (.ref a), some (.ref e), y3, y4, none, none] ∧ Bag (upd H3 e (.lst (os.map eV ++ [eV o']))) b g l (n + 4 * ((i + 1 : Nat) : Int)) ∧ SameB b g H (upd H3 e (.lst (os.map eV ++ [eV o']))) ∧ (upd H3 e (.lst (os.map eV ++ [eV o']))) e = some (.lst (os'.map eV)) ∧ os'.length = i + 1 ∧ ∀ o ∈ os', inT o := fun o' H3 h1 h2 h3 h4 => by
      refine ⟨os ++ [o'], _, _, rfl, ?_, ?_, ?_, ?_, ?_⟩
      · obtain ⟨⟨gs, ls, c, st', k1, k2, k3, k4, k5, k6, k7, k8, k9, k10⟩, gl⟩ := h2
        have le : l ≠ e := fun z => by rw [z, h4] at k3; injection k3 with k3; injection k3 with k3; cases k5' : ls with
          | nil => rw [k5'] at k5; exact absurd k5 (by decide)
          | cons y ys =>
            obtain ⟨gs0, ls0, c0, st0, m1, m2, m3, _⟩ := Bg.ex
            have := ne_of_none m3 he
            exact this z
        exact ⟨⟨gs, ls, c, st', by rw [upd_ne (Ne.symm eb)]; exact k1, by rw [upd_ne (Ne.symm eg)]; exact k2, by rw [upd_ne le]; exact k3, k4, k5, k6, k7, k8, by omega, k10⟩, gl⟩
      · intro a' o h5 h6 h7
        have : a' ≠ e := fun z => by rw [z, he] at h5; cases h5
        rw [upd_ne this]
        exact h3 a' o h5 h6 h7
      · rw [upd_same, List.map_append]; rfl
      · rw [List.length_append, eo]; rfl
      · intro o ho
        rcases List.mem_append.mp ho with z | z
        · exact ob o z
        · rw [List.mem_singleton.mp z]; exact h1
    have S3 := S1.trans S2
    have B3 : Bag H2 b g l (n + 4 * (i : Int) + 4) := B2.mono (by omega)
    refine ⟨_, rfl, rfl, _, rfl, ?_⟩
    refine ite2 (fun _ => ?_) (fun _ => ?_)
    · exact iteT ⟨_, rfl, .inl ⟨rfl, _, SqL.of e2⟩, e, _, _, rfl, rfl, e2, lt, fin none H2 none_in B3 S3 e2⟩
    refine ⟨_, rfl, _, rfl, ?_⟩
    cases o0 with
    | none =>
      refine iteT ⟨_, rfl, _, _, rfl, rfl, _, rfl, ite2 (fun _ => ?_) (fun _ => ?_)⟩
      · exact ⟨_, rfl, .inl ⟨rfl, _, SqL.of e2⟩, e, _, _, rfl, rfl, e2, lt, fin none H2 none_in B3 S3 e2⟩
      · refine ⟨_, rfl, _, rfl, iteT (iteT ⟨_, rfl, .inl ⟨rfl, _, SqL.of e2⟩, _, rfl, b, g, l, _, rfl, B2, by omega, fun x H4 x0 x1 B4 S4 => ?_⟩)⟩
        exact ⟨e, _, _, rfl, rfl, S4 e _ e2 eb eg, lt, fin (some x) H4 (fun i z => by injection z with z; subst z; exact ⟨x0, x1⟩) (B4.mono (by omega)) (S3.trans S4) (S4 e _ e2 eb eg)⟩
    | some i0 =>
      refine iteF (iteF ⟨_, rfl, _, rfl, iteF ⟨_, rfl, rfl, _, rfl, ite2 (fun _ => ?_) (fun _ => ?_)⟩⟩)
      · refine ⟨_, rfl, .inl ⟨rfl, _, SqL.of e2⟩, _, rfl, b, g, l, _, rfl, B2, by omega, fun x H4 x0 x1 B4 S4 => ?_⟩
        exact ⟨e, _, _, rfl, rfl, S4 e _ e2 eb eg, lt, fin (some x) H4 (fun i z => by injection z with z; subst z; exact ⟨x0, x1⟩) (B4.mono (by omega)) (S3.trans S4) (S4 e _ e2 eb eg)⟩
      · have hh := heldF_eq (i0 + st - 1)
        exact ⟨_, rfl, .inl ⟨rfl, _, SqL.of e2⟩, _, rfl, _, rfl, _, _, rfl, rfl, _, _, rfl, rfl, _, rfl, e, _, _, rfl, rfl, e2, lt, fin (some (heldF (i0 + st - 1))) H2 (fun i z => by injection z with z; subst z; unfold T15 at *; omega) B3 S3 e2⟩
  · rintro σ H' ⟨os, x3, x4, rfl, B1, S1, ee, eo, ob⟩
    match os, eo with
    | [o1, o2], _ =>
      have i1 := ob o1 (by simp)
      have i2 := ob o2 (by simp)
      refine ⟨_, rfl, e, _, rfl, SqL.of ee, rfl, _, _, rfl, _, _, rfl, rfl, ?_⟩
      have fin : ∀ (lo hi : Option Int), leO lo hi = true → inT lo → inT hi → ∀ t, H' t = none → Q (.ref t) (upd H' t (.tup [eV lo, eV hi])) := fun lo hi h1 h2 h3 t ht =>
        q _ lo hi _ ⟨t, rfl, upd_same⟩ ⟨h1, h2, h3⟩ ((B1.same (same_new ht _)).mono (by show n + 4 * ((2 : Nat) : Int) ≤ n + 8; omega)) (S1.trans (same_new ht _).sameB)
      refine ⟨_, rfl, _, rfl, ?_⟩
      cases o1 with
      | none => exact iteF (iteF ⟨_, rfl, _, rfl, (by show 2 ≤ sizeLine; decide), fin none o2 (by cases o2 <;> rfl) i1 i2⟩)
      | some x =>
        refine iteT ⟨_, rfl, _, rfl, ?_⟩
        cases o2 with
        | none => exact iteF (iteF ⟨_, rfl, _, rfl, (by show 2 ≤ sizeLine; decide), fin (some x) none rfl i1 i2⟩)
        | some y =>
          refine iteT ⟨_, rfl, _, rfl, _, _, rfl, rfl, _, rfl, ite2 (fun h => ?_) (fun h => ?_)⟩
          · exact ⟨_, rfl, _, rfl, (by show 2 ≤ sizeLine; decide), fin (some y) (some x) (decide_eq_true (by have h := of_decide_eq_true h; omega)) i2 i1⟩
          · exact ⟨_, rfl, _, rfl, (by show 2 ≤ sizeLine; decide), fin (some x) (some y) (decide_eq_true (by have h : ¬ y < x := fun z => h (decide_eq_true z); omega)) i1 i2⟩

theorem sc_law_wish : FnScope ["bag", "fields", "parts", "field", "there", "span"] ["bag", "fields"] (defScope s_law_wish) := ⟨rfl, rfl, rfl, by decide +kernel, rfl, by decide +kernel, by decide +kernel⟩
theorem ok_law_wish {f : Addr} {fd : FuncData} (F : Fun K "_law_wish" "_law_wish" s_law_wish f fd) (B : Bl mg) {t_MOST_LETTERS : Tok} (C_MOST_LETTERS : mg "MOST_LETTERS" = some (.int 8 t_MOST_LETTERS)) (G_law_span : FnH P w K mg base 3 "_law_span" ["bag"] (spSpan)) (G_law_draw : FnH P w K mg base 1 "_law_draw" ["bag", "many"] (spDraw)) : FnOk P w K mg base CX0 4 f fd ["bag", "fields"] (spLawWish) := by
  refine F.ok sc_law_wish (fun vs H Q E h => ?_) (fun cdv A outer s H vs Q E hr h => ?_)
  · obtain ⟨b, g, l, fl, n, fs, rfl, Bg, hn, FA, q⟩ := h
    rfl
  obtain ⟨b, g, l, fl, n, fs, rfl, Bg, hn, FA, q⟩ := h
  refine ⟨_, (pss_cons (ps_set (i := 2) sc_law_wish.nd rfl (Or.inl rfl) (pe_lst pa_nil))
      (pss_cons (ps_for PassesOwn.never rfl (pi_list (pv 1)) (pg_name (i := 3) sc_law_wish.nd rfl (Or.inl rfl)) (pss_cons (ps_set (i := 4) sc_law_wish.nd rfl (Or.inl rfl) (pe_cmpR op_gt (pe_fn G_law_draw (hr.mono (by decide)) rfl (pa_cons (pv 0) (pa_cons pe_int pa_nil))) pe_int (nomark _)))
      (pss_cons (ps_set (i := 5) sc_law_wish.nd rfl (Or.inl rfl) (pe_fn G_law_span (hr.mono (by decide)) rfl (pa_cons (pv 0) pa_nil)))
      (pss_one (ps_if (pt_val (pv 4)) (pss_one (ps_expr (pe_bm PySem.F.plainAttrs_list PySem.F.slot_list_append PySem.F.type_list_append mt_append (pv 2) (pa_cons (pe_tup (pa_cons (pv 3) (pa_cons (pe_ix ix_tup (pv 5) pe_int (fun _ _ => rfl)) (pa_cons (pe_ix ix_tup (pv 5) pe_int (fun _ _ => rfl)) pa_nil)))) pa_nil)))) pss_nil)))))
      (pss_one (ps_ret (pe_callTy call_tuple_of rfl B.tuple_ bt_tuple (pa_cons (pv 2) pa_nil)))))), ?_⟩
  refine ⟨sz0, fun r hr' => ?_⟩
  obtain ⟨rb, rg, rl⟩ := Bg.free hr'
  have s0 := same_new hr' (.lst [])
  have FA0 := FA.sameB s0.sameB
  have rf : r ≠ fl := fun e => by rw [e, FA.at'] at hr'; cases hr'
  refine ⟨_, rfl, fl, rfl, ⟨_, SqL.of FA0.at'⟩, for_list (K := K) (a := fl) (xs := fs.map V.str) (fun i σ H' => (∃ y3 y4 y5, σ = [some (.ref b), some (.ref fl), some (.ref r), y3, y4, y5]) ∧ SameB b g H H' ∧ Bag H' b g l (n + 9 * i) ∧ FieldsAt H' b g fl fs ∧
      ∃ qs : List (Addr × WP), H' r = some (.lst (qs.map fun q => V.ref q.1)) ∧ (∀ q ∈ qs, H' q.1 = some (.tup [.str q.2.1, eV q.2.2.1, eV q.2.2.2]) ∧ Good q.2.2.1 q.2.2.2) ∧ (qs.map (·.2.1)).Sublist (fs.take i)) ?_ ?_ ?_ ?_⟩
  · exact ⟨⟨none, none, none, rfl⟩, s0.sameB, (Bg.same s0).mono (by omega), FA0, [], upd_same, fun q hq => by simp at hq, by simp⟩
  · rintro i σ H' _ ⟨_, _, _, F1, _⟩
    exact SqL.of F1.at'
  · rintro i x σ H1 hx ⟨⟨y3, y4, y5, rfl⟩, S1, B1, F1, qs, e1, a1, u1⟩
    rw [List.getElem?_map] at hx
    cases ef : fs[i]? with
    | none => rw [ef] at hx; cases hx
    | some f' =>
      rw [ef] at hx
      obtain rfl : V.str f' = x := Option.some.inj hx
      have li : i < 9 := by have := (List.getElem?_eq_some_iff.mp ef).1; have := FA.len; omega
      refine ⟨_, rfl, b, g, l, _, 4, rfl, B1, by omega, by decide, by decide, fun c H2 c0 c1 B2 S2 => ?_⟩
      refine ⟨_, _, rfl, rfl, ?_⟩
      refine ⟨_, rfl, b, g, l, _, rfl, B2, by omega, fun v lo hi H3 sp G3 B3 S3 => ?_⟩
      have S13 := S2.trans S3
      have S03 := S1.trans S13
      have e3 := S13 _ _ e1 rb rg
      have F3 := F1.sameB S13
      have a3 : ∀ q ∈ qs, H3 q.1 = some (.tup [.str q.2.1, eV q.2.2.1, eV q.2.2.2]) ∧ Good q.2.2.1 q.2.2.2 := fun q hq => ⟨S3.tup B2 (S2.tup B1 (a1 q hq).1), (a1 q hq).2⟩
      have u2 : (qs.map (·.2.1)).Sublist (fs.take (i + 1)) := u1.trans (List.take_sublist_take_left (by omega))
      refine ⟨_, rfl, _, rfl, ite2 (fun _ => ?_) (fun _ => ?_)⟩
      · obtain ⟨sa, rfl, es⟩ := sp
        refine ⟨_, rfl, .inl ⟨rfl, _, SqL.of e3⟩, _, rfl, _, rfl, sa, _, 0, _, rfl, rfl, SqT.of es, rfl, _, rfl, sa, _, 1, _, rfl, rfl, SqT.of es, rfl, (by show 3 ≤ sizeLine; decide), fun t ht => ?_⟩
        have st := same_new ht (.tup [V.str f', eV lo, eV hi])
        have e4 := st _ _ e3
        refine ⟨r, _, _, rfl, rfl, e4, (by rw [List.length_map]; have := u1.length_le; simp at this; exact small1000 (by omega)), ?_⟩
        have tl := tups_lst (o := .lst (qs.map (fun q => V.ref q.1) ++ [V.ref t])) e4
        have nr : H r = none := hr'
        refine ⟨⟨_, _, _, rfl⟩, (S03.trans st.sameB).off nr, ((B3.same st).off rb rg rl).mono (by omega), ?_, qs ++ [(t, f', lo, hi)], ?_, ?_, ?_⟩
        · have F4 := F3.sameB st.sameB
          exact ⟨by rw [upd_ne rf.symm]; exact F4.at', F4.nb, F4.ng, F4.len, F4.ok, F4.asc⟩
        · rw [upd_same, List.map_append]; rfl
        · intro q hq
          rcases List.mem_append.mp hq with z | z
          · exact ⟨tl _ _ (st _ _ (a3 q z).1), (a3 q z).2⟩
          · rw [List.mem_singleton.mp z]
            exact ⟨tl _ _ upd_same, G3⟩
        · rw [List.map_append, take_snoc ef]
          exact u1.append (List.Sublist.refl _)
      · exact ⟨⟨_, _, _, rfl⟩, S03, B3.mono (by omega), F3, qs, e3, a3, u2⟩
  · rintro σ H1 ⟨⟨y3, y4, y5, rfl⟩, S1, B1, F1, qs, e1, a1, u1⟩
    rw [show fs.take (fs.map V.str).length = fs from List.take_of_length_le (by simp)] at u1
    have ll : qs.length ≤ 9 := by have h1 := u1.length_le; have h2 := FA.len; rw [List.length_map] at h1; omega
    refine ⟨_, rfl, r, _, rfl, .inl ⟨SqL.of e1, fun t ht => ?_⟩⟩
    have st := same_new ht (.tup (qs.map fun q => V.ref q.1))
    refine q t (qs.map (·.2)) _ ⟨qs, rfl, upd_same, fun q hq => st _ _ (a1 q hq).1⟩ ⟨by rw [List.length_map]; omega, fun p hp => ?_, ?_⟩ ((B1.same st).mono (by rw [List.length_map]; have := FA.len; omega)) (S1.trans st.sameB)
    · obtain ⟨q', hq', rfl⟩ := List.mem_map.mp hp
      exact ⟨FA.ok _ (u1.subset (List.mem_map_of_mem (f := fun (x : Addr × WP) => x.2.1) hq')), (a1 q' hq').2⟩
    · rw [List.map_map]
      exact FA.asc.sublist u1

theorem sc_law_beside : FnScope ["bag", "wish", "fields", "spans", "field", "low", "high", "parts", "choice", "span"] ["bag", "wish", "fields"] (defScope s_law_beside) := ⟨rfl, rfl, rfl, by decide +kernel, rfl, by decide +kernel, by decide +kernel⟩
theorem ok_law_beside {f : Addr} {fd : FuncData} (F : Fun K "_law_beside" "_law_beside" s_law_beside f fd) (B : Bl mg) {t_MOST_LETTERS : Tok} (C_MOST_LETTERS : mg "MOST_LETTERS" = some (.int 8 t_MOST_LETTERS)) (G_law_draw : FnH P w K mg base 1 "_law_draw" ["bag", "many"] (spDraw)) (G_law_span : FnH P w K mg base 3 "_law_span" ["bag"] (spSpan)) (G_law_moved : FnH P w K mg base 3 "_law_moved" ["bag", "span"] (spMoved)) : FnOk P w K mg base CX0 4 f fd ["bag", "wish", "fields"] (spBeside6) := by
  refine F.ok sc_law_beside (fun vs H Q E h => ?_) (fun cdv A outer s H vs Q E hr h => ?_)
  · obtain ⟨b, g, l, a, fl, n, w1, fs, rfl, Bg, hn, hw, wd, FA, q⟩ := h
    rfl
  obtain ⟨b, g, l, a, fl, n, w1, fs, rfl, Bg, hn, hw, wd, FA, q⟩ := h
  refine ⟨_, (pss_cons (ps_set (i := 3) sc_law_beside.nd rfl (Or.inl rfl) pe_dnewK)
      (pss_cons (ps_for PassesOwn.never rfl (pi_tup (pv 1)) (pg_tup rfl (pgs_cons (pg_name (i := 4) sc_law_beside.nd rfl (Or.inl rfl)) (pgs_cons (pg_name (i := 5) sc_law_beside.nd rfl (Or.inl rfl)) (pgs_cons (pg_name (i := 6) sc_law_beside.nd rfl (Or.inl rfl)) pgs_nil)))) (pss_one (ps_dput (hu_of hr) (pv 3) (pv 4) (pe_tup (pa_cons (pv 5) (pa_cons (pv 6) pa_nil))) rfl)))
      (pss_cons (ps_set (i := 7) sc_law_beside.nd rfl (Or.inl rfl) (pe_lst pa_nil))
      (pss_cons (ps_for PassesOwn.never rfl (pi_list (pv 2)) (pg_name (i := 4) sc_law_beside.nd rfl (Or.inl rfl)) (pss_cons (ps_set (i := 8) sc_law_beside.nd rfl (Or.inl rfl) (pe_fn G_law_draw (hr.mono (by decide)) rfl (pa_cons (pv 0) (pa_cons pe_int pa_nil))))
      (pss_cons (ps_set (i := 9) sc_law_beside.nd rfl (Or.inl rfl) (pe_ifExp (pt_cmp (pc_din (hu_of hr) (pv 4) (pv 3)) (by with_unfolding_all rfl)) (pe_dget (hu_of hr) (pv 3) (pv 4) (fun _ _ => rfl)) (pe_fn G_law_span (hr.mono (by decide)) rfl (pa_cons (pv 0) pa_nil))))
      (pss_cons (ps_if (PW.pt (pw_and (pt_cmp (pc_din (hu_of hr) (pv 4) (pv 3)) (by with_unfolding_all rfl)) (pw_and1 (pt_cmpR op_eq (pv 8) pe_int (nomark _))))) (pss_one (ps_set (i := 9) sc_law_beside.nd rfl (Or.inl rfl) (pe_fn G_law_moved (hr.mono (by decide)) rfl (pa_cons (pv 0) (pa_cons (pv 9) pa_nil))))) pss_nil)
      (pss_cons (ps_if (PW.pt (pw_and (pt_cmp (pc_din (hu_of hr) (pv 4) (pv 3)) (by with_unfolding_all rfl)) (pw_and1 (pt_cmpR op_eq (pv 8) pe_int (nomark _))))) (pss_one (ps_set (i := 9) sc_law_beside.nd rfl (Or.inl rfl) (pe_fn G_law_span (hr.mono (by decide)) rfl (pa_cons (pv 0) pa_nil)))) pss_nil)
      (pss_one (ps_if (PW.pt (pw_or (PW.pt (pw_and (pt_cmp (pc_din (hu_of hr) (pv 4) (pv 3)) (by with_unfolding_all rfl)) (pw_and1 (pt_cmpR op_ne (pv 8) pe_int (nomark _))))) (pw_or1 (PW.pt (pw_and (pt_cmp (pc_dnotin (hu_of hr) (pv 4) (pv 3)) (by with_unfolding_all rfl)) (pw_and1 (pt_cmpR op_lt (pv 8) pe_int (nomark _)))))))) (pss_one (ps_expr (pe_bm PySem.F.plainAttrs_list PySem.F.slot_list_append PySem.F.type_list_append mt_append (pv 7) (pa_cons (pe_tup (pa_cons (pv 4) (pa_cons (pe_ix ix_tup (pv 9) pe_int (fun _ _ => rfl)) (pa_cons (pe_ix ix_tup (pv 9) pe_int (fun _ _ => rfl)) pa_nil)))) pa_nil)))) pss_nil)))))))
      (pss_one (ps_ret (pe_callTy call_tuple_of rfl B.tuple_ bt_tuple (pa_cons (pv 7) pa_nil)))))))), ?_⟩
  intro d hd
  obtain ⟨db, dg, dl⟩ := Bg.free hd
  have s0 := same_new hd (.dK [])
  have wok := wd.wok
  have hw0 := hw
  obtain ⟨ps, rfl, hA, hP⟩ := hw
  have ll : ps.length ≤ 100 := by have := wok.len; rw [List.length_map] at this; exact this
  refine ⟨_, rfl, a, rfl, ⟨_, SqT.of (s0 _ _ hA)⟩, for_tup (K := K) (a := a) (xs := ps.map fun (p : Addr × WP) => V.ref p.1) (fun i σ H' => (∃ y4 y5 y6, σ = [some (.ref b), some (.ref a), some (.ref fl), some (.ref d), y4, y5, y6, none, none, none]) ∧ Same H H' ∧ ∃ kvs : List (Key × V), H' d = some (.dK kvs) ∧ kvs.length ≤ i ∧ ∀ f : Str, match spanOf ((ps.map (·.2)).take i) f with
      | none => valV kvs (.inr f) = none
      | some s => ∃ t, valV kvs (.inr f) = some (.ref t) ∧ H' t = some (.tup [eV s.1, eV s.2])) ⟨⟨none, none, none, rfl⟩, s0, [], upd_same, Nat.zero_le _, fun f => rfl⟩ (fun i σ H' _ ⟨_, s, _⟩ => SqT.of (s _ _ hA)) ?_ ?_⟩
  · rintro i x σ H' hx ⟨⟨y4, y5, y6, rfl⟩, s, kvs, h1, h2, h3⟩
    rw [List.getElem?_map] at hx
    cases e1 : ps[i]? with
    | none => rw [e1] at hx; cases hx
    | some P1 =>
      rw [e1] at hx
      obtain rfl : V.ref P1.1 = x := Option.some.inj hx
      have hm := List.mem_of_getElem? e1
      have li := (List.getElem?_eq_some_iff.mp e1).1
      refine ⟨P1.1, _, rfl, SqT.of (s _ _ (hP P1 hm)), rfl, _, _, rfl, _, _, rfl, _, _, rfl, rfl, ?_⟩
      refine ⟨_, rfl, _, rfl, (by show 2 ≤ sizeLine; decide), fun u hu => ?_⟩
      have su := same_new hu (.tup [eV P1.2.2.1, eV P1.2.2.2])
      have eu : (upd H' u (.tup [eV P1.2.2.1, eV P1.2.2.2])) u = some (.tup [eV P1.2.2.1, eV P1.2.2.2]) := upd_same
      have h1' := su _ _ h1
      generalize upd H' u (.tup [eV P1.2.2.1, eV P1.2.2.2]) = H2 at *
      have du : u ≠ d := ne_of eu h1' (by intro z; cases z)
      refine ⟨_, rfl, _, rfl, d, _, rfl, DPut.k (k := Sum.inr P1.2.1) h1' (small1000 (by omega)), ⟨_, _, _, rfl⟩, upd_off (s.trans su) hd, _, upd_same, ?_, fun f => ?_⟩
      · have := length_putK kvs (Sum.inr P1.2.1 : Key) (V.ref u)
        omega
      · have ew : (ps.map (·.2))[i]? = some P1.2 := by rw [List.getElem?_map, e1]; rfl
        have fr := wok.fresh ew
        rw [take_snoc ew, spanOf_snoc _ _ _ fr, valV_put]
        by_cases hf : f = P1.2.1
        · subst hf
          rw [if_pos rfl, if_pos rfl]
          exact ⟨u, rfl, by rw [upd_ne du]; exact eu⟩
        · rw [if_neg hf, if_neg (fun z => hf (by injection z))]
          have := h3 f
          cases hs : spanOf ((ps.map (·.2)).take i) f with
          | none => rw [hs] at this; exact this
          | some sp =>
            rw [hs] at this
            obtain ⟨t, t1, t2⟩ := this
            exact ⟨t, t1, by rw [upd_ne (ne_of (su _ _ t2) h1' (by intro z; cases z))]; exact su _ _ t2⟩
  · rintro σ H0 ⟨⟨y4, y5, y6, rfl⟩, sH0, kvs, h1, h2, h3⟩
    have et : (ps.map (·.2)).take (ps.map fun (p : Addr × WP) => V.ref p.1).length = ps.map (·.2) := List.take_of_length_le (by simp)
    rw [et] at h3
    have D0 : DictSp H0 d (ps.map (·.2)) := ⟨kvs, h1, by simpa using h2, h3⟩
    generalize hW : ps.map (·.2) = W at *
    refine ⟨sz0, fun r hr' => ?_⟩
    have B0 := Bg.same sH0
    obtain ⟨rb, rg, rl⟩ := B0.free hr'
    have sr := same_new hr' (.lst [])
    have nr : H r = none := none_of sH0 hr'
    have FA0 := FA.sameB (sH0.trans sr).sameB
    have rf : r ≠ fl := fun e => by have := sH0 _ _ FA.at'; rw [← e, hr'] at this; cases this
    refine ⟨_, rfl, fl, rfl, ⟨_, SqL.of FA0.at'⟩, for_list (K := K) (a := fl) (xs := fs.map V.str) (fun i σ H' => (∃ y4 y5 y6 y8 y9, σ = [some (.ref b), some (.ref a), some (.ref fl), some (.ref d), y4, y5, y6, some (.ref r), y8, y9]) ∧ SameB b g H H' ∧ Bag H' b g l (n + 30 * i) ∧ FieldsAt H' b g fl fs ∧ DictSp H' d W ∧
        ∃ qs : List (Addr × WP), H' r = some (.lst (qs.map fun q => V.ref q.1)) ∧ (∀ q ∈ qs, H' q.1 = some (.tup [.str q.2.1, eV q.2.2.1, eV q.2.2.2]) ∧ Good q.2.2.1 q.2.2.2) ∧ (qs.map (·.2.1)).Sublist (fs.take i)) ?_ ?_ ?_ ?_⟩
    · exact ⟨⟨_, _, _, _, _, rfl⟩, (sH0.trans sr).sameB, (B0.same sr).mono (by omega), FA0, D0.same sr, [], upd_same, fun q hq => by simp at hq, by simp⟩
    · rintro i σ H' _ ⟨_, _, _, F1, _⟩
      exact SqL.of F1.at'
    · rintro i x σ H1 hx ⟨⟨y4, y5, y6, y8, y9, rfl⟩, S1, B1, F1, D1, qs, e1, a1, u1⟩
      rw [List.getElem?_map] at hx
      cases ef : fs[i]? with
      | none => rw [ef] at hx; cases hx
      | some f' =>
        rw [ef] at hx
        obtain rfl : V.str f' = x := Option.some.inj hx
        have li : i < 9 := by have := (List.getElem?_eq_some_iff.mp ef).1; have := FA.len; omega
        have u2 : (qs.map (·.2.1)).Sublist (fs.take (i + 1)) := u1.trans (List.take_sublist_take_left (by omega))
        refine ⟨_, rfl, b, g, l, _, 8, rfl, B1, by omega, by decide, by decide, fun c H2 c0 c1 B2 S2 => ?_⟩
        have D2 := D1.sameB B1 db dg S2
        obtain ⟨kv2, k21, k22, k23⟩ := id D2
        have kf2 := k23 f'
        refine ⟨_, rfl, _, rfl, d, _, rfl, DGet.k (k := Sum.inr f') k21, _, rfl, ?_⟩
        cases hs : spanOf W f' with
        | some sp0 =>
          rw [hs] at kf2
          obtain ⟨t2, y1, y2⟩ := kf2
          have G0 : Good sp0.1 sp0.2 := by
            obtain ⟨p, hp, _, rfl⟩ := spanOf_mem hs
            exact (wd.ok p hp).2
          have gd2 : DGet H2 d (.str f') (some (.ref t2)) := by
            have := DGet.k (k := Sum.inr f') k21
            rw [y1] at this
            exact this
          rw [y1]
          refine iteT ⟨_, rfl, _, rfl, d, _, rfl, gd2, ?_⟩
          refine ⟨_, rfl, _, rfl, d, _, rfl, gd2, _, rfl, iteT ⟨_, rfl, rfl, _, rfl, ite2 (fun h5 => ?_) (fun h5 => ?_)⟩⟩
          · refine ⟨_, rfl, _, rfl, b, g, l, _, _, sp0.1, sp0.2, rfl, B2, ⟨t2, rfl, y2⟩, by omega, fun v lo hi H3 sp G3 B3 S3 => ?_⟩
            have S13 := S2.trans S3
            have e3 := S13 _ _ e1 rb rg
            have F3 := F1.sameB S13
            have D3 := D1.sameB B1 db dg S13
            have S03 := S1.trans S13
            have a3 : ∀ q ∈ qs, H3 q.1 = some (.tup [.str q.2.1, eV q.2.2.1, eV q.2.2.2]) ∧ Good q.2.2.1 q.2.2.2 := fun q hq => ⟨S13.tup B1 (a1 q hq).1, (a1 q hq).2⟩
            obtain ⟨kv3, k31, k32, k33⟩ := id D3
            have kf3 := k33 f'
            rw [hs] at kf3
            refine ⟨_, rfl, _, rfl, d, _, rfl, DGet.k (k := Sum.inr f') k31, _, rfl, ?_⟩
            obtain ⟨t3', w1, w2⟩ := kf3
            rw [w1]
            have kf3 := k33 f'
            rw [hs] at kf3
            refine iteT ⟨_, rfl, rfl, _, rfl, ite2 (fun h6 => absurd (h5 : decide _ = true) (by have := of_decide_eq_true h6; injection this with this; subst this; decide)) (fun _ => ?_)⟩
            obtain ⟨t3, z1, z2⟩ := kf3
            refine ⟨_, rfl, _, rfl, d, _, rfl, DGet.k (k := Sum.inr f') k31, _, rfl, ?_⟩
            rw [z1]
            refine iteT ⟨_, rfl, rfl, _, rfl, ite2 (fun _ => ?_) (fun _ => ⟨_, rfl, _, rfl, d, _, rfl, DGet.k (k := Sum.inr f') k31, _, rfl, ?_⟩)⟩
            · obtain ⟨sa, rfl, es⟩ := sp
              refine ⟨_, rfl, .inl ⟨rfl, _, SqL.of e3⟩, _, rfl, _, rfl, sa, _, 0, _, rfl, rfl, SqT.of es, rfl, _, rfl, sa, _, 1, _, rfl, rfl, SqT.of es, rfl, (by show 3 ≤ sizeLine; decide), fun t ht => ?_⟩
              have st := same_new ht (.tup [V.str f', eV lo, eV hi])
              have e4 := st _ _ e3
              refine ⟨r, _, _, rfl, rfl, e4, (by rw [List.length_map]; have := u1.length_le; simp at this; exact small1000 (by omega)), ?_⟩
              have tl := tups_lst (o := .lst (qs.map (fun q => V.ref q.1) ++ [V.ref t])) e4
              refine ⟨⟨_, _, _, _, _, rfl⟩, (S03.trans st.sameB).off nr, ((B3.same st).off rb rg rl).mono (by omega), ?_, (D3.same st).off e4, qs ++ [(t, f', lo, hi)], ?_, ?_, ?_⟩
              · have F4 := F3.sameB st.sameB
                exact ⟨by rw [upd_ne rf.symm]; exact F4.at', F4.nb, F4.ng, F4.len, F4.ok, F4.asc⟩
              · rw [upd_same, List.map_append]; rfl
              · intro q hq
                rcases List.mem_append.mp hq with z | z
                · exact ⟨tl _ _ (st _ _ (a3 q z).1), (a3 q z).2⟩
                · rw [List.mem_singleton.mp z]
                  exact ⟨tl _ _ upd_same, G3⟩
              · rw [List.map_append, take_snoc ef]
                exact u1.append (List.Sublist.refl _)
            · rw [z1]
              exact iteF ⟨⟨_, _, _, _, _, rfl⟩, S03, B3.mono (by omega), F3, D3, qs, e3, a3, u2⟩
          · refine ⟨_, rfl, _, rfl, d, _, rfl, gd2, _, rfl, iteT ⟨_, rfl, rfl, _, rfl, ite2 (fun h6 => ?_) (fun h6 => ?_)⟩⟩
            · refine ⟨_, rfl, b, g, l, _, rfl, B2, by omega, fun v lo hi H3 sp G3 B3 S3 => ?_⟩
              have S13 := S2.trans S3
              have e3 := S13 _ _ e1 rb rg
              have F3 := F1.sameB S13
              have D3 := D1.sameB B1 db dg S13
              have S03 := S1.trans S13
              have a3 : ∀ q ∈ qs, H3 q.1 = some (.tup [.str q.2.1, eV q.2.2.1, eV q.2.2.2]) ∧ Good q.2.2.1 q.2.2.2 := fun q hq => ⟨S13.tup B1 (a1 q hq).1, (a1 q hq).2⟩
              obtain ⟨kv3, k31, k32, k33⟩ := id D3
              have kf3 := k33 f'
              rw [hs] at kf3
              obtain ⟨t3, z1, z2⟩ := kf3
              refine ⟨_, rfl, _, rfl, d, _, rfl, DGet.k (k := Sum.inr f') k31, _, rfl, ?_⟩
              rw [z1]
              refine iteT ⟨_, rfl, rfl, _, rfl, ite2 (fun _ => ?_) (fun _ => ⟨_, rfl, _, rfl, d, _, rfl, DGet.k (k := Sum.inr f') k31, _, rfl, ?_⟩)⟩
              · obtain ⟨sa, rfl, es⟩ := sp
                refine ⟨_, rfl, .inl ⟨rfl, _, SqL.of e3⟩, _, rfl, _, rfl, sa, _, 0, _, rfl, rfl, SqT.of es, rfl, _, rfl, sa, _, 1, _, rfl, rfl, SqT.of es, rfl, (by show 3 ≤ sizeLine; decide), fun t ht => ?_⟩
                have st := same_new ht (.tup [V.str f', eV lo, eV hi])
                have e4 := st _ _ e3
                refine ⟨r, _, _, rfl, rfl, e4, (by rw [List.length_map]; have := u1.length_le; simp at this; exact small1000 (by omega)), ?_⟩
                have tl := tups_lst (o := .lst (qs.map (fun q => V.ref q.1) ++ [V.ref t])) e4
                refine ⟨⟨_, _, _, _, _, rfl⟩, (S03.trans st.sameB).off nr, ((B3.same st).off rb rg rl).mono (by omega), ?_, (D3.same st).off e4, qs ++ [(t, f', lo, hi)], ?_, ?_, ?_⟩
                · have F4 := F3.sameB st.sameB
                  exact ⟨by rw [upd_ne rf.symm]; exact F4.at', F4.nb, F4.ng, F4.len, F4.ok, F4.asc⟩
                · rw [upd_same, List.map_append]; rfl
                · intro q hq
                  rcases List.mem_append.mp hq with z | z
                  · exact ⟨tl _ _ (st _ _ (a3 q z).1), (a3 q z).2⟩
                  · rw [List.mem_singleton.mp z]
                    exact ⟨tl _ _ upd_same, G3⟩
                · rw [List.map_append, take_snoc ef]
                  exact u1.append (List.Sublist.refl _)
              · rw [z1]
                exact iteF ⟨⟨_, _, _, _, _, rfl⟩, S03, B3.mono (by omega), F3, D3, qs, e3, a3, u2⟩
            · have B3 := B2
              have S13 := S2
              have sp : SpanAt H2 (.ref t2) sp0.1 sp0.2 := ⟨t2, rfl, y2⟩
              obtain ⟨lo, elo⟩ : ∃ lo, sp0.1 = lo := ⟨_, rfl⟩
              obtain ⟨hi, ehi⟩ : ∃ hi, sp0.2 = hi := ⟨_, rfl⟩
              rw [elo, ehi] at sp G0
              have G3 := G0
              have e3 := S13 _ _ e1 rb rg
              have F3 := F1.sameB S13
              have D3 := D1.sameB B1 db dg S13
              have S03 := S1.trans S13
              have a3 : ∀ q ∈ qs, H2 q.1 = some (.tup [.str q.2.1, eV q.2.2.1, eV q.2.2.2]) ∧ Good q.2.2.1 q.2.2.2 := fun q hq => ⟨S13.tup B1 (a1 q hq).1, (a1 q hq).2⟩
              obtain ⟨kv3, k31, k32, k33⟩ := id D3
              have kf3 := k33 f'
              rw [hs] at kf3
              obtain ⟨t3, z1, z2⟩ := kf3
              refine ⟨_, rfl, _, rfl, d, _, rfl, DGet.k (k := Sum.inr f') k31, _, rfl, ?_⟩
              rw [z1]
              refine iteT ⟨_, rfl, rfl, _, rfl, ite2 (fun _ => ?_) (fun _ => ⟨_, rfl, _, rfl, d, _, rfl, DGet.k (k := Sum.inr f') k31, _, rfl, ?_⟩)⟩
              · obtain ⟨sa, hsa, es⟩ := sp
                obtain rfl : t2 = sa := by injection hsa
                refine ⟨_, rfl, .inl ⟨rfl, _, SqL.of e3⟩, _, rfl, _, rfl, t2, _, 0, _, rfl, rfl, SqT.of es, rfl, _, rfl, t2, _, 1, _, rfl, rfl, SqT.of es, rfl, (by show 3 ≤ sizeLine; decide), fun t ht => ?_⟩
                have st := same_new ht (.tup [V.str f', eV lo, eV hi])
                have e4 := st _ _ e3
                refine ⟨r, _, _, rfl, rfl, e4, (by rw [List.length_map]; have := u1.length_le; simp at this; exact small1000 (by omega)), ?_⟩
                have tl := tups_lst (o := .lst (qs.map (fun q => V.ref q.1) ++ [V.ref t])) e4
                refine ⟨⟨_, _, _, _, _, rfl⟩, (S03.trans st.sameB).off nr, ((B3.same st).off rb rg rl).mono (by omega), ?_, (D3.same st).off e4, qs ++ [(t, f', lo, hi)], ?_, ?_, ?_⟩
                · have F4 := F3.sameB st.sameB
                  exact ⟨by rw [upd_ne rf.symm]; exact F4.at', F4.nb, F4.ng, F4.len, F4.ok, F4.asc⟩
                · rw [upd_same, List.map_append]; rfl
                · intro q hq
                  rcases List.mem_append.mp hq with z | z
                  · exact ⟨tl _ _ (st _ _ (a3 q z).1), (a3 q z).2⟩
                  · rw [List.mem_singleton.mp z]
                    exact ⟨tl _ _ upd_same, G3⟩
                · rw [List.map_append, take_snoc ef]
                  exact u1.append (List.Sublist.refl _)
              · rw [z1]
                exact iteF ⟨⟨_, _, _, _, _, rfl⟩, S03, B3.mono (by omega), F3, D3, qs, e3, a3, u2⟩
        | none =>
          rw [hs] at kf2
          rw [kf2]
          refine iteF ⟨_, rfl, b, g, l, _, rfl, B2, by omega, fun v lo hi H3 sp G3 B3 S3 => ?_⟩
          have S13 := S2.trans S3
          have e3 := S13 _ _ e1 rb rg
          have F3 := F1.sameB S13
          have D3 := D1.sameB B1 db dg S13
          have S03 := S1.trans S13
          have a3 : ∀ q ∈ qs, H3 q.1 = some (.tup [.str q.2.1, eV q.2.2.1, eV q.2.2.2]) ∧ Good q.2.2.1 q.2.2.2 := fun q hq => ⟨S13.tup B1 (a1 q hq).1, (a1 q hq).2⟩
          obtain ⟨kv3, k31, k32, k33⟩ := id D3
          have kf3 := k33 f'
          rw [hs] at kf3
          have no : ∀ (Q' : VK), Q' (.bl false) H3 → True := fun _ _ => trivial
          have gd3 : DGet H3 d (.str f') none := by
            have := DGet.k (k := Sum.inr f') k31
            rw [kf3] at this
            exact this
          refine ⟨_, rfl, _, rfl, d, _, rfl, gd3, _, rfl, iteF ?_⟩
          refine ⟨_, rfl, _, rfl, d, _, rfl, gd3, _, rfl, iteF ?_⟩
          refine ⟨_, rfl, _, rfl, d, _, rfl, gd3, _, rfl, iteF ?_⟩
          refine ⟨_, rfl, _, rfl, d, _, rfl, gd3, _, rfl, iteT ⟨_, rfl, _, _, rfl, rfl, _, rfl, ite2 (fun _ => ?_) (fun _ => ?_)⟩⟩
          · obtain ⟨sa, rfl, es⟩ := sp
            refine ⟨_, rfl, .inl ⟨rfl, _, SqL.of e3⟩, _, rfl, _, rfl, sa, _, 0, _, rfl, rfl, SqT.of es, rfl, _, rfl, sa, _, 1, _, rfl, rfl, SqT.of es, rfl, (by show 3 ≤ sizeLine; decide), fun t ht => ?_⟩
            have st := same_new ht (.tup [V.str f', eV lo, eV hi])
            have e4 := st _ _ e3
            refine ⟨r, _, _, rfl, rfl, e4, (by rw [List.length_map]; have := u1.length_le; simp at this; exact small1000 (by omega)), ?_⟩
            have tl := tups_lst (o := .lst (qs.map (fun q => V.ref q.1) ++ [V.ref t])) e4
            refine ⟨⟨_, _, _, _, _, rfl⟩, (S03.trans st.sameB).off nr, ((B3.same st).off rb rg rl).mono (by omega), ?_, (D3.same st).off e4, qs ++ [(t, f', lo, hi)], ?_, ?_, ?_⟩
            · have F4 := F3.sameB st.sameB
              exact ⟨by rw [upd_ne rf.symm]; exact F4.at', F4.nb, F4.ng, F4.len, F4.ok, F4.asc⟩
            · rw [upd_same, List.map_append]; rfl
            · intro q hq
              rcases List.mem_append.mp hq with z | z
              · exact ⟨tl _ _ (st _ _ (a3 q z).1), (a3 q z).2⟩
              · rw [List.mem_singleton.mp z]
                exact ⟨tl _ _ upd_same, G3⟩
            · rw [List.map_append, take_snoc ef]
              exact u1.append (List.Sublist.refl _)
          · exact ⟨⟨_, _, _, _, _, rfl⟩, S03, B3.mono (by omega), F3, D3, qs, e3, a3, u2⟩
    · rintro σ H1 ⟨⟨y4, y5, y6, y8, y9, rfl⟩, S1, B1, F1, D1, qs, e1, a1, u1⟩
      rw [show fs.take (fs.map V.str).length = fs from List.take_of_length_le (by simp)] at u1
      have ll : qs.length ≤ 9 := by have h1 := u1.length_le; have h2 := FA.len; rw [List.length_map] at h1; omega
      refine ⟨_, rfl, r, _, rfl, .inl ⟨SqL.of e1, fun t ht => ?_⟩⟩
      have st := same_new ht (.tup (qs.map fun q => V.ref q.1))
      refine q t (qs.map (·.2)) _ ⟨qs, rfl, upd_same, fun q hq => st _ _ (a1 q hq).1⟩ ⟨by rw [List.length_map]; omega, fun p hp => ?_, ?_⟩ ((B1.same st).mono (by rw [List.length_map]; have := FA.len; omega)) (S1.trans st.sameB)
      · obtain ⟨q', hq', rfl⟩ := List.mem_map.mp hp
        exact ⟨FA.ok _ (u1.subset (List.mem_map_of_mem (f := fun (x : Addr × WP) => x.2.1) hq')), (a1 q' hq').2⟩
      · rw [List.map_map]
        exact FA.asc.sublist u1

theorem sc_law_two : FnScope ["bag", "apart", "fields", "one"] ["bag"] (defScope s_law_two) := ⟨rfl, rfl, rfl, by decide +kernel, rfl, by decide +kernel, by decide +kernel⟩
theorem ok_law_two {f : Addr} {fd : FuncData} (F : Fun K "_law_two" "_law_two" s_law_two f fd) (B : Bl mg) {t_MOST_LETTERS : Tok} (C_MOST_LETTERS : mg "MOST_LETTERS" = some (.int 8 t_MOST_LETTERS)) (G_law_draw : FnH P w K mg base 1 "_law_draw" ["bag", "many"] (spDraw)) (G_law_fields : FnH P w K mg base 3 "_law_fields" ["bag", "most"] (spLawFields)) (G_law_wish : FnH P w K mg base 4 "_law_wish" ["bag", "fields"] (spLawWish)) (G_law_beside : FnH P w K mg base 4 "_law_beside" ["bag", "wish", "fields"] (spBeside6)) : FnOk P w K mg base CX0 5 f fd ["bag"] (spTwo6) := by
  refine F.ok sc_law_two (fun vs H Q E h => ?_) (fun cdv A outer s H vs Q E hr h => ?_)
  · obtain ⟨b, g, l, n, rfl, Bg, hn, q⟩ := h
    rfl
  obtain ⟨b, g, l, n, rfl, Bg, hn, q⟩ := h
  refine ⟨_, (pss_cons (ps_set (i := 1) sc_law_two.nd rfl (Or.inl rfl) (pe_fn G_law_draw (hr.mono (by decide)) rfl (pa_cons (pv 0) (pa_cons pe_int pa_nil))))
      (pss_cons (ps_set (i := 2) sc_law_two.nd rfl (Or.inl rfl) (pe_fn G_law_fields (hr.mono (by decide)) rfl (pa_cons (pv 0) (pa_cons pe_int pa_nil))))
      (pss_cons (ps_set (i := 3) sc_law_two.nd rfl (Or.inl rfl) (pe_fn G_law_wish (hr.mono (by decide)) rfl (pa_cons (pv 0) (pa_cons (pv 2) pa_nil))))
      (pss_cons (ps_if (pt_cmpR op_eq (pv 1) pe_int (nomark _)) (pss_one (ps_ret (pe_tup (pa_cons (pv 3) (pa_cons (pe_fn G_law_wish (hr.mono (by decide)) rfl (pa_cons (pv 0) (pa_cons (pe_fn G_law_fields (hr.mono (by decide)) rfl (pa_cons (pv 0) (pa_cons pe_int pa_nil))) pa_nil))) pa_nil))))) pss_nil)
      (pss_one (ps_ret (pe_tup (pa_cons (pv 3) (pa_cons (pe_ifExp (pt_cmpR op_eq (pv 1) pe_int (nomark _)) (pe_fn G_law_wish (hr.mono (by decide)) rfl (pa_cons (pv 0) (pa_cons (pv 2) pa_nil))) (pe_fn G_law_beside (hr.mono (by decide)) rfl (pa_cons (pv 0) (pa_cons (pv 3) (pa_cons (pv 2) pa_nil))))) pa_nil))))))))), ?_⟩
  refine ⟨_, rfl, b, g, l, n, 5, rfl, Bg, by omega, by decide, by decide, fun c H1 c0 c1 B1 S1 => ?_⟩
  refine ⟨_, rfl, b, g, l, _, 6, rfl, B1, by omega, by decide, by decide, fun fl fs H2 nf ef asc fok fln B2 S2 => ?_⟩
  obtain ⟨fb, fg, _⟩ := B1.free nf
  have FA : FieldsAt H2 b g fl fs := ⟨ef, fb, fg, by omega, fok, asc⟩
  refine ⟨_, rfl, _, rfl, b, g, l, fl, _, fs, rfl, B2, by omega, FA, fun o1 w1 H3 W3 D3 B3 S3 => ?_⟩
  have FA3 := FA.sameB S3
  have S03 := S1.trans (S2.trans S3)
  have fin : ∀ (o2 : Addr) (w2 : List WP) (H4 : Hp), WishAt H4 o2 w2 → WDrawn w2 → Bag H4 b g l (n + 900) → SameB b g H3 H4 → ∀ t, H4 t = none → Q (.ref t) (upd H4 t (.tup [.ref o1, .ref o2])) := fun o2 w2 H4 W4 D4 B4 S4 t ht => by
    have st := same_new ht (.tup [.ref o1, .ref o2])
    exact q t o1 o2 w1 w2 _ upd_same ((W3.sameB B3 S4).same st) (W4.same st) D3 D4 ((B4.same st).mono (by omega)) ((S03.trans S4).trans st.sameB)
  refine ⟨_, rfl, rfl, _, rfl, ite2 (fun _ => ?_) (fun _ => ?_)⟩
  · refine ⟨_, rfl, _, rfl, _, rfl, b, g, l, _, 6, rfl, B3, by omega, by decide, by decide, fun fl2 fs2 H4 nf2 ef2 asc2 fok2 fln2 B4 S4 => ?_⟩
    obtain ⟨fb2, fg2, _⟩ := B3.free nf2
    refine ⟨b, g, l, fl2, _, fs2, rfl, B4, by omega, ⟨ef2, fb2, fg2, by omega, fok2, asc2⟩, fun o2 w2 H5 W5 D5 B5 S5 => ?_⟩
    exact ⟨(by show 2 ≤ sizeLine; decide), fin o2 w2 H5 W5 D5 (B5.mono (by omega)) (S4.trans S5)⟩
  · refine ⟨_, rfl, _, rfl, rfl, _, rfl, ite2 (fun _ => ?_) (fun _ => ?_)⟩
    · exact ⟨_, rfl, _, rfl, b, g, l, fl, _, fs, rfl, B3, by omega, FA3, fun o2 w2 H5 W5 D5 B5 S5 => ⟨(by show 2 ≤ sizeLine; decide), fin o2 w2 H5 W5 D5 (B5.mono (by omega)) S5⟩⟩
    · exact ⟨_, rfl, _, rfl, _, rfl, b, g, l, o1, fl, _, w1, fs, rfl, B3, by omega, W3, D3, FA3, fun o2 w2 H5 W5 D5 B5 S5 => ⟨(by show 2 ≤ sizeLine; decide), fin o2 w2 H5 W5 D5 (B5.mono (by omega)) S5⟩⟩

theorem sc_law_span_of : FnScope ["wish", "field", "found"] ["wish", "field"] (defScope s_law_span_of) := ⟨rfl, rfl, rfl, by decide +kernel, rfl, by decide +kernel, by decide +kernel⟩
theorem ok_law_span_of {f : Addr} {fd : FuncData} (F : Fun K "_law_span_of" "_law_span_of" s_law_span_of f fd) (B : Bl mg) {t_MOST_LETTERS : Tok} (C_MOST_LETTERS : mg "MOST_LETTERS" = some (.int 8 t_MOST_LETTERS))  : FnOk P w K mg base CX0 1 f fd ["wish", "field"] (spSpanOf) := by
  refine F.ok sc_law_span_of (fun vs H Q E h => ?_) (fun cdv A outer s H vs Q E hr h => ?_)
  · obtain ⟨a, w', f', rfl, hw, wok, q⟩ := h
    rfl
  obtain ⟨a, w', f', rfl, hw, wok, q⟩ := h
  refine ⟨_, (pss_cons (ps_setLC (N' := ["name", "low", "high", "field"]) (js := [none, none, none, some 1]) (i := 2) sc_law_span_of.nd rfl (Or.inl rfl) rfl (capOk (N := ["wish", "field", "found"]) (outer := defScope s_law_span_of) (by decide +kernel)) (pi_tup (pv 0)) (fun _ _ _ _ _ => (pg_tupK K rfl (n := 3) rfl (pgs_cons (pg_name (i := 0) (show List.Nodup (["name", "low", "high", "field"] : List Str) by decide +kernel) rfl (Or.inl rfl)) (pgs_cons (pg_name (i := 1) (show List.Nodup (["name", "low", "high", "field"] : List Str) by decide +kernel) rfl (Or.inl rfl)) (pgs_cons (pg_name (i := 2) (show List.Nodup (["name", "low", "high", "field"] : List Str) by decide +kernel) rfl (Or.inl rfl)) pgs_nil))))) (fun _ _ _ _ _ => pifs_one (pt_cmpR op_eq (pv 0) (pv 3) (nomark _))) (fun _ _ _ _ _ => (pe_tup (pa_cons (pv 1) (pa_cons (pv 2) pa_nil)))))
      (pss_one (ps_ret (pe_ifExp (pt_cmpR (op_neD (roomD_of hr)) (pv 2) (pe_lst pa_nil) (nomark _)) (pe_ix ix_list (pv 2) pe_int (fun _ _ => rfl)) (pe_tup (pa_cons pe_non (pa_cons pe_non pa_nil))))))), ?_⟩
  obtain ⟨ps, rfl, hA, hP⟩ := hw
  have ll : ps.length ≤ 100 := by have := wok.len; rw [List.length_map] at this; exact this
  refine ⟨_, rfl, a, rfl, ⟨_, SqT.of hA⟩, fun p hp => ?_⟩
  refine lc_tup (xs := ps.map fun p => V.ref p.1) (fun j σ' ys H2 => (∃ v1 v2 v3, σ' = [v1, v2, v3, some (.str f')]) ∧ Same H H2 ∧ H2 p = some (.lst ys) ∧ ys.length ≤ j ∧ match spanOf ((ps.map (·.2)).take j) f' with
      | none => ys = []
      | some s => ∃ t, ys = [.ref t] ∧ H2 t = some (.tup [eV s.1, eV s.2])) ⟨⟨none, none, none, rfl⟩, same_new hp _, upd_same, Nat.le_refl _, rfl⟩ ?_ ?_ ?_
  · rintro j σ' ys H2 hj ⟨_, s2, h1, h2, _⟩
    rw [List.length_map] at hj
    exact ⟨s2.seqT (SqT.of hA), h1, small1000 (by omega)⟩
  · rintro j y σ' ys H2 N hy ⟨⟨v1, v2, v3, rfl⟩, s2, h1, h2, h3⟩ hN
    rw [List.getElem?_map] at hy
    cases e2 : ps[j]? with
    | none => rw [e2] at hy; cases hy
    | some P2 =>
      rw [e2] at hy
      obtain rfl : V.ref P2.1 = y := Option.some.inj hy
      have hm2 := List.mem_of_getElem? e2
      have ep : (ps.map (·.2))[j]? = some P2.2 := by rw [List.getElem?_map, e2]; rfl
      have fr := wok.fresh ep
      refine ⟨P2.1, _, rfl, SqT.of (s2 _ _ (hP P2 hm2)), rfl, _, _, rfl, _, _, rfl, _, _, rfl, rfl, ?_⟩
      refine ⟨_, rfl, _, rfl, rfl, _, rfl, ite2 (fun hx => ?_) (fun hx => ?_)⟩
      · have hx' : f' = P2.2.1 := (V.str.inj (by simpa using hx)).symm
        rw [hx', fr] at h3
        subst h3
        refine ⟨_, rfl, _, rfl, (by show 2 ≤ sizeLine; decide), fun t ht => ?_⟩
        have st := same_new ht (.tup [eV P2.2.2.1, eV P2.2.2.2])
        refine ⟨st _ _ h1, hN _ _ _ ⟨⟨_, _, _, rfl⟩, upd_off (s2.trans st) hp, upd_same, by simp, ?_⟩⟩
        rw [take_snoc ep, spanOf_snoc _ _ _ fr, if_pos hx']
        refine ⟨t, rfl, ?_⟩
        have : t ≠ p := fun z => by rw [z, h1] at ht; cases ht
        rw [upd_ne this, upd_same]
      · have hx' : f' ≠ P2.2.1 := fun z => hx (by rw [z]; simp)
        refine hN _ _ _ ⟨⟨_, _, _, rfl⟩, s2, h1, by omega, ?_⟩
        rw [take_snoc ep, spanOf_snoc _ _ _ fr, if_neg hx']
        exact h3
  · rintro σ' ys H2 ⟨_, s2, h1, h2, h3⟩
    have et : (ps.map (·.2)).take (ps.map fun p => V.ref p.1).length = ps.map (·.2) := List.take_of_length_le (by simp)
    rw [et] at h3
    refine ⟨_, rfl, sz0, fun z hz => ?_⟩
    have s3 := same_new hz (.lst [])
    cases hs : spanOf (ps.map (·.2)) f' with
    | none =>
      rw [hs] at h3
      subst h3
      refine neNil (ns := []) (SqL.of (s3 _ _ h1)) (SqL.of upd_same) ⟨_, rfl, iteF ⟨(by show 2 ≤ sizeLine; decide), fun t ht => ?_⟩⟩
      have st := same_new ht (.tup [V.non, V.non])
      have eo : spanOr (ps.map (·.2)) f' = (none, none) := by unfold spanOr; rw [hs]; rfl
      exact q _ _ (s2.trans (s3.trans st)) (by rw [eo]; exact ⟨t, rfl, upd_same⟩)
    | some sp =>
      rw [hs] at h3
      obtain ⟨t, rfl, e3⟩ := h3
      have eo : spanOr (ps.map (·.2)) f' = sp := by unfold spanOr; rw [hs]; rfl
      refine neOne (SqL.of (s3 _ _ h1)) (SqT.of (s3 _ _ e3)) (SqL.of upd_same) ⟨_, rfl, iteT ⟨_, rfl, p, _, 0, _, rfl, rfl, SqL.of (s3 _ _ h1), at0, ?_⟩⟩
      exact q _ _ (s2.trans s3) (by rw [eo]; exact ⟨t, rfl, s3 _ _ e3⟩)

theorem sc_law_points : FnScope ["spans", "points", "span", "end"] ["spans"] (defScope s_law_points) := ⟨rfl, rfl, rfl, by decide +kernel, rfl, by decide +kernel, by decide +kernel⟩
theorem ok_law_points {f : Addr} {fd : FuncData} (F : Fun K "_law_points" "_law_points" s_law_points f fd) (B : Bl mg) {t_MOST_LETTERS : Tok} (C_MOST_LETTERS : mg "MOST_LETTERS" = some (.int 8 t_MOST_LETTERS))  : FnOk P w K mg base CX0 1 f fd ["spans"] (spPoints K) := by
  refine F.ok sc_law_points (fun vs H Q E h => ?_) (fun cdv A outer s H vs Q E hr h => ?_)
  · obtain ⟨a, ss, rfl, hS, hT, h8, q⟩ := h
    rfl
  obtain ⟨a, ss, rfl, hS, hT, h8, q⟩ := h
  refine ⟨_, (pss_cons (ps_set (i := 1) sc_law_points.nd rfl (Or.inl rfl) (pe_lst (pa_cons pe_int (pa_cons (pe_op op_powB pe_int pe_int) (pa_cons (pe_op op_sub pe_int (pe_op op_powB pe_int pe_int)) pa_nil)))))
      (pss_cons (ps_for PassesOwn.never rfl (pi_list (pv 0)) (pg_name (i := 2) sc_law_points.nd rfl (Or.inl rfl)) (pss_one (ps_for PassesOwn.never rfl (pi_tup (pv 2)) (pg_name (i := 3) sc_law_points.nd rfl (Or.inl rfl)) (pss_one (ps_if (pt_cmp (pc_notN (pv 3))) (pss_one (ps_set (i := 1) sc_law_points.nd rfl (Or.inl rfl) (pe_op op_cat (pv 1) (pe_lst (pa_cons (pe_op op_sub (pv 3) pe_int) (pa_cons (pv 3) (pa_cons (pe_op op_add (pv 3) pe_int) pa_nil))))))) pss_nil)))))
      (pss_one (ps_ret (pv 1))))), ?_⟩
  refine ⟨_, _, rfl, rfl, pw10 (by decide) (by decide), _, _, rfl, rfl, pw10 (by decide) (by decide), _, _, rfl, rfl, (by show 3 ≤ sizeLine; decide), fun p0 hp0 => ?_⟩
  have s0 := same_new hp0 (.lst (pts0.map V.int))
  refine ⟨_, rfl, a, rfl, ⟨_, s0.seq hS⟩, for_list (K := K) (a := a) (xs := ss.map fun s => V.ref s.1) (fun i σ H' => ∃ (pa : Addr) (x2 x3 : Option V), σ = [some (.ref a), some (.ref pa), x2, x3] ∧ Same H H' ∧ H' pa = some (.lst ((ptsOf ((ss.take i).map (·.2))).map V.int)))
    ⟨p0, none, none, rfl, s0, upd_same⟩ (fun i σ H' _ ⟨_, _, _, _, s, _⟩ => s.seq hS) ?_ ?_⟩
  · rintro i x σ H1 hx ⟨pa, x2, x3, rfl, s1, e1⟩
    rw [List.getElem?_map] at hx
    cases hs' : ss[i]? with
    | none => rw [hs'] at hx; cases hx
    | some sp =>
      rw [hs'] at hx
      obtain rfl : V.ref sp.1 = x := Option.some.inj hx
      have hm : sp ∈ ss := List.mem_of_getElem? hs'
      have et := hT sp hm
      have il : i < ss.length := (List.getElem?_eq_some_iff.mp hs').1
      have e4 := take_snoc hs'
      refine ⟨_, rfl, sp.1, rfl, ⟨_, SqT.of (s1 _ _ et)⟩, for_tup (K := K) (a := sp.1) (xs := [eV sp.2.1, eV sp.2.2]) (fun j σ H' => ∃ (pb : Addr) (y3 : Option V), σ = [some (.ref a), some (.ref pb), some (.ref sp.1), y3] ∧ Same H H' ∧ H' pb = some (.lst ((ptsOf ((ss.take i).map (·.2)) ++ ([sp.2.1, sp.2.2].take j).flatMap near).map V.int)))
        ⟨pa, x3, rfl, s1, by rw [e1]; simp⟩ (fun j σ H' _ ⟨_, _, _, s, _⟩ => SqT.of (s _ _ et)) ?_ ?_⟩
      · rintro j y σ H2 hy ⟨pb, y3, rfl, s2, e2⟩
        have j2 : j < 2 := (List.getElem?_eq_some_iff.mp hy).1
        obtain ⟨o, rfl, ho⟩ : ∃ o, y = eV o ∧ [sp.2.1, sp.2.2][j]? = some o := by
          match j, hy with
          | 0, hy => exact ⟨_, (Option.some.inj hy).symm, rfl⟩
          | 1, hy => exact ⟨_, (Option.some.inj hy).symm, rfl⟩
        have e3 := take_snoc ho
        refine ⟨_, rfl, _, rfl, ?_⟩
        cases o with
        | none =>
          refine iteF ⟨pb, _, rfl, s2, ?_⟩
          rw [e2, e3, List.flatMap_append]
          simp [near]
        | some v =>
          refine iteT ⟨_, rfl, _, rfl, _, _, rfl, rfl, _, rfl, _, rfl, _, _, rfl, rfl, (by show 3 ≤ sizeLine; decide), fun p hp => ?_⟩
          have s3 := same_new hp (.lst [V.int (v - 1), V.int v, V.int (v + 1)])
          refine ⟨pb, p, _, _, rfl, rfl, s3 _ _ e2, upd_same, ?_, fun t ht => ?_⟩
          · have k1 := pts_len ((ss.take i).map (·.2))
            have k2 : (([sp.2.1, sp.2.2].take j).flatMap near).length ≤ 6 := by
              match j, j2 with
              | 0, _ => simp
              | 1, _ => simp only [List.take_succ_cons, List.take_zero, List.flatMap_cons, List.flatMap_nil, List.append_nil]; have := near_len sp.2.1; omega
            rw [List.length_map, List.length_append]
            rw [List.length_map, List.length_take] at k1
            simp only [List.length_cons, List.length_nil]
            exact small (by omega)
          · refine ⟨t, _, rfl, s2.trans (s3.trans (same_new ht _)), ?_⟩
            rw [upd_same, e3, List.flatMap_append, ← List.append_assoc, List.map_append (l₂ := List.flatMap near [some v])]
            rfl
      · rintro σ H2 ⟨pb, y3, rfl, s2, e2⟩
        refine ⟨pb, _, _, rfl, s2, ?_⟩
        rw [e2, e4, List.map_append]
        simp [ptsOf, List.flatMap_append]
  · rintro σ H1 ⟨pa, x2, x3, rfl, s1, e1⟩
    refine ⟨_, rfl, q pa H1 s1 ?_⟩
    rw [e1, List.length_map, List.take_length]

theorem sc_law_wants : FnScope ["wish", "piece", "numbers", "field", "low", "high"] ["wish", "piece"] (defScope s_law_wants) := ⟨rfl, rfl, rfl, by decide +kernel, rfl, by decide +kernel, by decide +kernel⟩
theorem ok_law_wants {f : Addr} {fd : FuncData} (F : Fun K "_law_wants" "_law_wants" s_law_wants f fd) (B : Bl mg) {t_MOST_LETTERS : Tok} (C_MOST_LETTERS : mg "MOST_LETTERS" = some (.int 8 t_MOST_LETTERS)) (G_law_in : FnH P w K mg base 1 "_law_in" ["span", "number"] (spIn)) : FnOk P w K mg base CX0 2 f fd ["wish", "piece"] (spTakes) := by
  refine F.ok sc_law_wants (fun vs H Q E h => ?_) (fun cdv A outer s H vs Q E hr h => ?_)
  · obtain ⟨a, b, w', p, rfl, hw, hp, pok, q⟩ := h
    rfl
  obtain ⟨a, b, w', p, rfl, hw, hp, pok, q⟩ := h
  refine ⟨_, (pss_cons (ps_set (i := 2) sc_law_wants.nd rfl (Or.inl rfl) (pe_callTy (call_dictT rfl) rfl B.dict_ bt_dict (pa_cons (pv 1) pa_nil)))
      (pss_cons (ps_for PassesOwn.never rfl (pi_tup (pv 0)) (pg_tup rfl (pgs_cons (pg_name (i := 3) sc_law_wants.nd rfl (Or.inl rfl)) (pgs_cons (pg_name (i := 4) sc_law_wants.nd rfl (Or.inl rfl)) (pgs_cons (pg_name (i := 5) sc_law_wants.nd rfl (Or.inl rfl)) pgs_nil)))) (pss_one (ps_if (PW.pt (pw_or (pt_cmp (pc_dnotin (hu_of hr) (pv 3) (pv 2)) (by with_unfolding_all rfl)) (pw_or1 (pt_not (pt_val (pe_fn G_law_in (hr.mono (by decide)) rfl (pa_cons (pe_tup (pa_cons (pv 4) (pa_cons (pv 5) pa_nil))) (pa_cons (pe_dget (hu_of hr) (pv 2) (pv 3) (fun _ _ => rfl)) pa_nil)))))))) (pss_one (ps_ret pe_bl)) pss_nil)))
      (pss_one (ps_ret pe_bl)))), ?_⟩
  obtain ⟨ps, rfl, hA, hP⟩ := hp
  have ll : ps.length ≤ 100 := by have := pok.len; rw [List.length_map] at this; exact this
  refine ⟨_, rfl, b, prsOf ps, rfl, ?_, ?_, fun d hd => ?_⟩
  · unfold prsOf; rw [List.map_map]; exact hA
  · intro r hr'
    unfold prsOf at hr'
    obtain ⟨P1, hm, rfl⟩ := List.mem_map.mp hr'
    exact hP P1 hm
  have s1 := same_new hd (.dK ((prsOf ps).foldl (fun acc p => putK acc p.2.1 p.2.2) []))
  have h1 : (upd H d (.dK ((prsOf ps).foldl (fun acc p => putK acc p.2.1 p.2.2) []))) d = some (.dK ((prsOf ps).foldl (fun acc p => putK acc p.2.1 p.2.2) [])) := upd_same
  have h3 : ∀ f : Str, valV ((prsOf ps).foldl (fun acc p => putK acc p.2.1 p.2.2) []) (.inr f : Key) = (numIn (ps.map (·.2)) f).map V.int := fold_piece' ps pok
  generalize (prsOf ps).foldl (fun acc p => putK acc p.2.1 p.2.2) [] = kvs at *
  generalize upd H d (.dK kvs) = H1 at *
  obtain ⟨ws, rfl, hB, hW⟩ := hw.same s1
  refine ⟨_, rfl, a, rfl, ⟨_, SqT.of hB⟩, for_tup (K := K) (a := a) (xs := ws.map fun p => V.ref p.1) (fun i σ H' => (∃ y3 y4 y5, σ = [some (.ref a), some (.ref b), some (.ref d), y3, y4, y5]) ∧ Same H1 H' ∧ takesW ((ws.map (·.2)).take i) (ps.map (·.2)) = true) ⟨⟨none, none, none, rfl⟩, Same.refl _, rfl⟩ (fun i σ H' _ ⟨_, s, _⟩ => s.seqT (SqT.of hB)) ?_ ?_⟩
  · rintro i x σ H' hx ⟨⟨y2, y3, y4, rfl⟩, s, hr'⟩
    rw [List.getElem?_map] at hx
    cases e1 : ws[i]? with
    | none => rw [e1] at hx; cases hx
    | some P1 =>
      rw [e1] at hx
      obtain rfl : V.ref P1.1 = x := Option.some.inj hx
      have hm := List.mem_of_getElem? e1
      have ew : (ws.map (·.2))[i]? = some P1.2 := by rw [List.getElem?_map, e1]; rfl
      have k1 := s _ _ h1
      have kf := h3 P1.2.1
      refine ⟨P1.1, _, rfl, SqT.of (s _ _ (hW P1 hm)), rfl, _, _, rfl, _, _, rfl, _, _, rfl, rfl, ?_⟩
      have out : takesP (ps.map (·.2)) P1.2 = false → takesW (ws.map (·.2)) (ps.map (·.2)) = false := fun h => takesW_out (List.mem_map_of_mem hm) h
      refine ⟨_, rfl, _, rfl, d, _, rfl, DGet.k (k := Sum.inr P1.2.1) k1, _, rfl, ?_⟩
      cases hs : numIn (ps.map (·.2)) P1.2.1 with
      | none =>
        rw [hs] at kf
        rw [kf]
        refine iteT ?_
        have o1 := out (takesP_none hs)
        rw [o1] at q
        exact q _ (s1.trans s)
      | some n =>
        rw [hs] at kf
        rw [kf]
        refine iteF ⟨_, rfl, _, rfl, (by show 2 ≤ sizeLine; decide), fun u hu => ?_⟩
        have su := same_new hu (.tup [eV P1.2.2.1, eV P1.2.2.2])
        have gd : DGet (upd H' u (.tup [eV P1.2.2.1, eV P1.2.2.2])) d (.str P1.2.1) (some (.int n)) := by
          have := DGet.k (k := Sum.inr P1.2.1) (su _ _ k1)
          rw [kf] at this
          exact this
        refine ⟨_, rfl, _, rfl, d, _, rfl, gd, .ref u, P1.2.2.1, P1.2.2.2, n, rfl, ⟨u, rfl, upd_same⟩, _, rfl, ?_⟩
        cases hb : inB P1.2.2.1 P1.2.2.2 n with
        | false =>
          refine iteT ?_
          have o1 := out ((takesP_some hs).trans hb)
          rw [o1] at q
          exact q _ (s1.trans (s.trans su))
        | true =>
          refine iteF ⟨⟨_, _, _, rfl⟩, s.trans su, ?_⟩
          rw [take_snoc ew]
          unfold takesW at *
          rw [List.all_append, hr', Bool.true_and, List.all_cons, List.all_nil, takesP_some hs, hb]
          rfl
  · rintro σ H' ⟨_, s, hr'⟩
    rw [show (ws.map (·.2)).take (ws.map fun p => V.ref p.1).length = ws.map (·.2) from List.take_of_length_le (by simp)] at hr'
    rw [hr'] at q
    exact q _ (s1.trans s)

theorem sc_law_is_field : FnScope ["thing"] ["thing"] (defScope s_law_is_field) := ⟨rfl, rfl, rfl, by decide +kernel, rfl, by decide +kernel, by decide +kernel⟩
theorem ok_law_is_field {f : Addr} {fd : FuncData} (F : Fun K "_law_is_field" "_law_is_field" s_law_is_field f fd) (B : Bl mg) {t_MOST_LETTERS : Tok} (C_MOST_LETTERS : mg "MOST_LETTERS" = some (.int 8 t_MOST_LETTERS))  : FnOk P w K mg base CX0 1 f fd ["thing"] (spLawIsField) := by
  refine F.ok sc_law_is_field (fun vs H Q E h => ?_) (fun cdv A outer s H vs Q E hr h => ?_)
  · obtain ⟨x, rfl, F1, q⟩ := h
    rfl
  obtain ⟨x, rfl, F1, q⟩ := h
  refine ⟨_, (pss_cons (ps_if (PW.pt (pw_or (pt_not (pt_val (pe_callB (call_isinst (n := "")) rfl B.isinstance_ bt_isinstance (pa_cons (pv 0) (pa_cons (pe_bltn (v := .ty "str") rfl B.str_ bt_str rfl) pa_nil))))) (pw_or (pt_cmpR op_lt (pe_callB call_len_str rfl B.len_ bt_len (pa_cons (pv 0) pa_nil)) pe_int (nomark _)) (pw_or1 (pt_cmpR op_gt (pe_callB call_len_str rfl B.len_ bt_len (pa_cons (pv 0) pa_nil)) pe_int (nomark _)))))) (pss_one (ps_ret pe_bl)) pss_nil)
      (pss_one (ps_ret (pe_cmpR (op_eqD (roomD_of hr)) (pe_lc (N' := ["sign"]) (js := [none]) rfl (capOk (N := ["thing"]) (outer := defScope s_law_is_field) (by decide +kernel)) (pi_str (pv 0)) (fun _ _ _ _ _ => (pg_name (i := 0) (show List.Nodup (["sign"] : List Str) by decide +kernel) rfl (Or.inl rfl))) (fun _ _ _ _ _ => pifs_one (pt_cmpR op_notIn_str (pv 0) pe_str (by with_unfolding_all rfl))) (fun _ _ _ _ _ => (pv 0))) (pe_lst pa_nil) (nomark _))))), ?_⟩
  have l1 := F1.one
  have l8 := F1.eight
  refine ⟨_, rfl, _, "str", "str", true, rfl, .str x, rfl, _, rfl, iteF ⟨_, rfl, x, rfl, small (by omega), _, _, rfl, rfl, _, rfl, ite2 (fun h => absurd (of_decide_eq_true h) (by omega)) (fun _ => ⟨_, rfl, x, rfl, small (by omega), _, _, rfl, rfl, _, rfl, ite2 (fun h => absurd (of_decide_eq_true h) (by omega)) (fun _ => ?_)⟩)⟩⟩
  refine ⟨_, rfl, x, rfl, fun p hp => ?_⟩
  have s0 := same_new hp (.lst [])
  refine lc_itv (xs := L2.signs x) (fun i σ' ys H' => (∃ v, σ' = [v]) ∧ Same H H' ∧ H' p = some (.lst ys) ∧ ys = []) ⟨⟨none, rfl⟩, s0, upd_same, rfl⟩ ?_ ?_ ?_
  · rintro i σ' ys H' hi ⟨_, _, h1, h2⟩
    exact ⟨h1, by rw [h2]; exact small1000 (by simp)⟩
  · rintro i y σ' ys H' N hy ⟨⟨v, rfl⟩, s, h1, h2⟩ hN
    unfold L2.signs at hy
    rw [List.getElem?_map] at hy
    cases hc : x.cps.toList[i]? with
    | none => rw [hc] at hy; cases hy
    | some c =>
      rw [hc] at hy
      obtain rfl : V.str ⟨#[c]⟩ = y := Option.some.inj hy
      have ok := F1.all c (List.mem_of_getElem? hc)
      refine ⟨_, rfl, _, _, rfl, rfl, _, rfl, ?_⟩
      rw [az_in ok]
      exact iteF (hN _ _ _ ⟨⟨_, rfl⟩, s, h1, h2⟩)
  · rintro σ' ys H' ⟨_, s, h1, rfl⟩
    refine ⟨sz0, fun z hz => ?_⟩
    have s3 := same_new hz (.lst [])
    exact eqNil (ns := []) (SqL.of (s3 _ _ h1)) (SqL.of upd_same) (q _ (s.trans s3))

theorem sc_law_is_span : FnScope ["low", "high", "end"] ["low", "high"] (defScope s_law_is_span) := ⟨rfl, rfl, rfl, by decide +kernel, rfl, by decide +kernel, by decide +kernel⟩
theorem ok_law_is_span {f : Addr} {fd : FuncData} (F : Fun K "_law_is_span" "_law_is_span" s_law_is_span f fd) (B : Bl mg) {t_MOST_LETTERS : Tok} (C_MOST_LETTERS : mg "MOST_LETTERS" = some (.int 8 t_MOST_LETTERS)) (G_law_whole : FnH P w K mg base 1 "_law_whole" ["found"] (spWhole K)) : FnOk P w K mg base CX0 2 f fd ["low", "high"] (spNever) :=
  F.ok sc_law_is_span (fun vs H Q E h => h.elim) (fun cdv A outer s H vs Q E hr h => h.elim)
theorem sc_law_is_made : FnScope ["thing", "size", "k", "part"] ["thing", "size"] (defScope s_law_is_made) := ⟨rfl, rfl, rfl, by decide +kernel, rfl, by decide +kernel, by decide +kernel⟩
theorem ok_law_is_made {f : Addr} {fd : FuncData} (F : Fun K "_law_is_made" "_law_is_made" s_law_is_made f fd) (B : Bl mg) {t_MOST_LETTERS : Tok} (C_MOST_LETTERS : mg "MOST_LETTERS" = some (.int 8 t_MOST_LETTERS)) (G_law_is_field : FnH P w K mg base 1 "_law_is_field" ["thing"] (spLawIsField)) (G_law_is_span : FnH P w K mg base 2 "_law_is_span" ["low", "high"] (spNever)) (G_law_whole : FnH P w K mg base 1 "_law_whole" ["found"] (spWhole K)) : FnOk P w K mg base CX0 3 f fd ["thing", "size"] (spLawMade2) := by
  refine F.ok sc_law_is_made (fun vs H Q E h => ?_) (fun cdv A outer s H vs Q E hr h => ?_)
  · obtain ⟨a, p, rfl, hp, pok, q⟩ := h
    rfl
  obtain ⟨a, p, rfl, hp, pok, q⟩ := h
  refine ⟨_, (pss_cons (ps_if (pt_not (pt_val (pe_callB (call_isinst (n := "")) rfl B.isinstance_ bt_isinstance (pa_cons (pv 0) (pa_cons (pe_bltn (v := .ty "tuple") rfl B.tuple_ bt_tuple rfl) pa_nil))))) (pss_one (ps_ret pe_bl)) pss_nil)
      (pss_cons (ps_for PassesOwn.never rfl (pi_range1 rfl B.range_ (pa_cons (pe_callB call_len_seq rfl B.len_ bt_len (pa_cons (pv 0) pa_nil)) pa_nil)) (pg_name (i := 2) sc_law_is_made.nd rfl (Or.inl rfl)) (pss_cons (ps_set (i := 3) sc_law_is_made.nd rfl (Or.inl rfl) (pe_ix ix_tup (pv 0) (pv 2) (fun _ _ => rfl)))
      (pss_cons (ps_if (PW.pt (pw_or (pt_not (pt_val (pe_callB (call_isinst (n := "")) rfl B.isinstance_ bt_isinstance (pa_cons (pv 3) (pa_cons (pe_bltn (v := .ty "tuple") rfl B.tuple_ bt_tuple rfl) pa_nil))))) (pw_or (pt_cmpR op_ne (pe_callB call_len_seq rfl B.len_ bt_len (pa_cons (pv 3) pa_nil)) (pv 1) (nomark _)) (pw_or1 (pt_not (pt_val (pe_fn G_law_is_field (hr.mono (by decide)) rfl (pa_cons (pe_ix ix_tup (pv 3) pe_int (fun _ _ => rfl)) pa_nil)))))))) (pss_one (ps_ret pe_bl)) pss_nil)
      (pss_cons (ps_if (PW.pt (pw_and (pt_cmpR op_gt (pv 2) pe_int (nomark _)) (pw_and1 (pt_not (pt_cmpR op_lt_str (pe_ix ix_tup (pe_ix ix_tup (pv 0) (pe_op op_sub (pv 2) pe_int) (fun _ _ => rfl)) pe_int (fun _ _ => rfl)) (pe_ix ix_tup (pv 3) pe_int (fun _ _ => rfl)) (nomark _)))))) (pss_one (ps_ret pe_bl)) pss_nil)
      (pss_one (ps_if (PW.pt (pw_or (PW.pt (pw_and (pt_cmpR op_eq (pv 1) pe_int (nomark _)) (pw_and1 (pt_not (pt_val (pe_fn G_law_is_span (hr.mono (by decide)) rfl (pa_cons (pe_ix ix_tup (pv 3) pe_int (fun _ _ => rfl)) (pa_cons (pe_ix ix_tup (pv 3) pe_int (fun _ _ => rfl)) pa_nil)))))))) (pw_or1 (PW.pt (pw_and (pt_cmpR op_eq (pv 1) pe_int (nomark _)) (pw_and1 (pt_not (pt_val (pe_fn G_law_whole (hr.mono (by decide)) rfl (pa_cons (pe_ix ix_tup (pv 3) pe_int (fun _ _ => rfl)) pa_nil)))))))))) (pss_one (ps_ret pe_bl)) pss_nil))))))
      (pss_one (ps_ret pe_bl)))), ?_⟩
  obtain ⟨ps, rfl, hA, hP⟩ := hp
  have ll : ps.length ≤ 100 := by have := pok.len; rw [List.length_map] at this; exact this
  refine ⟨_, rfl, _, "tuple", "tuple", true, rfl, .tup hA, rfl, _, rfl, iteF ?_⟩
  refine ⟨_, rfl, a, _, rfl, .inr (SqT.of hA), _, rfl, (by rw [List.length_map]; omega), (by rw [List.length_map]; omega), for_range (lo := 0) (n := (ps.map fun (p : Addr × PP) => V.ref p.1).length) (fun i σ H' => (∃ y2 y3, σ = [some (.ref a), some (.int 2), y2, y3]) ∧ Same H H') ⟨⟨none, none, rfl⟩, Same.refl _⟩ ?_ ?_⟩
  · rintro i σ H' hi ⟨⟨y2, y3, rfl⟩, s⟩
    rw [List.length_map] at hi
    obtain ⟨P1, e1⟩ : ∃ P1, ps[i]? = some P1 := ⟨ps[i], by simp [hi]⟩
    have hm := List.mem_of_getElem? e1
    have hx : atI (ps.map fun p => V.ref p.1) (0 + (i : Int)) = some (.ref P1.1) := by
      rw [Int.zero_add]
      exact atI_nat (by rw [List.getElem?_map, e1]; rfl)
    have h1 := s _ _ (hP P1 hm)
    have fok : FieldOk P1.2.1 := pok.ok P1.2 (List.mem_map_of_mem hm)
    refine ⟨_, rfl, _, rfl, a, _, _, _, rfl, rfl, SqT.of (s _ _ hA), hx, ?_⟩
    refine ⟨_, rfl, _, "tuple", "tuple", true, rfl, .tup h1, rfl, _, rfl, iteF ⟨_, rfl, P1.1, _, rfl, .inr (SqT.of h1), _, rfl, rfl, _, rfl, ite2 (fun h => absurd h (by simp)) (fun _ => ⟨_, rfl, P1.1, _, 0, _, rfl, rfl, SqT.of h1, rfl, P1.2.1, rfl, fok, fun H1 s1 => ⟨_, rfl, iteF ?_⟩⟩)⟩⟩
    have t1 := s.trans s1
    have g1 := s1 _ _ h1
    have last : ∀ (D : Ends), D.nx [some (.ref a), some (.int 2), some (.int (0 + (i : Int))), some (.ref P1.1)] H1 → D.nx [some (.ref a), some (.int 2), some (.int (0 + (i : Int))), some (.ref P1.1)] H1 := fun _ z => z
    refine ⟨_, rfl, _, _, rfl, rfl, _, rfl, ite2 (fun h => ?_) (fun h => ?_)⟩
    · have i0 : 0 < i := by have := of_decide_eq_true h; omega
      obtain ⟨P0, e0⟩ : ∃ P0, ps[i - 1]? = some P0 := ⟨ps[i - 1]'(by omega), List.getElem?_eq_getElem (by omega)⟩
      have hm0 := List.mem_of_getElem? e0
      have hx0 : atI (ps.map fun p => V.ref p.1) (0 + (i : Int) - 1) = some (.ref P0.1) := by
        rw [show 0 + (i : Int) - 1 = ((i - 1 : Nat) : Int) by omega]
        exact atI_nat (by rw [List.getElem?_map, e0]; rfl)
      have lt : ltF P0.2.1 P1.2.1 := by
        have := List.pairwise_iff_getElem.mp pok.asc (i - 1) i (by simp; omega) (by simp; omega) (by omega)
        simp only [List.getElem_map] at this
        rw [(List.getElem?_eq_some_iff.mp e0).2, (List.getElem?_eq_some_iff.mp e1).2] at this
        exact this
      refine ⟨_, rfl, _, rfl, _, _, rfl, rfl, a, _, _, _, rfl, rfl, SqT.of (t1 _ _ hA), hx0, P0.1, _, 0, _, rfl, rfl, SqT.of (t1 _ _ (hP P0 hm0)), rfl, _, rfl, P1.1, _, 0, _, rfl, rfl, SqT.of g1, rfl, _, _, rfl, rfl, _, rfl, ?_⟩
      rw [decide_eq_true (show P0.2.1.cps.toList < P1.2.1.cps.toList from lt)]
      refine iteF ?_
      refine ⟨_, rfl, rfl, _, rfl, ite2 (fun h => absurd h (by decide)) (fun _ => ⟨_, rfl, rfl, _, rfl, ite2 (fun _ => ?_) (fun h => absurd (by decide) h)⟩)⟩
      exact ⟨_, rfl, P1.1, _, 1, _, rfl, rfl, SqT.of g1, rfl, .int P1.2.2, "int", rfl, .int _, _, rfl, iteF ⟨⟨_, _, rfl⟩, t1⟩⟩
    · refine ⟨_, rfl, rfl, _, rfl, ite2 (fun h => absurd h (by decide)) (fun _ => ⟨_, rfl, rfl, _, rfl, ite2 (fun _ => ?_) (fun h => absurd (by decide) h)⟩)⟩
      exact ⟨_, rfl, P1.1, _, 1, _, rfl, rfl, SqT.of g1, rfl, .int P1.2.2, "int", rfl, .int _, _, rfl, iteF ⟨⟨_, _, rfl⟩, t1⟩⟩
  · rintro σ H' ⟨_, s⟩
    exact q _ s

theorem sc_law_pieces : FnScope ["wish", "other", "first", "rows", "field", "low", "high", "points", "pieces", "number", "numbers"] ["wish", "other"] (defScope s_law_pieces) := ⟨rfl, rfl, rfl, by decide +kernel, rfl, by decide +kernel, by decide +kernel⟩
theorem ok_law_pieces {f : Addr} {fd : FuncData} (F : Fun K "_law_pieces" "_law_pieces" s_law_pieces f fd) (B : Bl mg) {t_MOST_LETTERS : Tok} (C_MOST_LETTERS : mg "MOST_LETTERS" = some (.int 8 t_MOST_LETTERS)) (G_law_points : FnH P w K mg base 1 "_law_points" ["spans"] (spPoints K)) (G_law_span_of : FnH P w K mg base 1 "_law_span_of" ["wish", "field"] (spSpanOf)) (G_law_in : FnH P w K mg base 1 "_law_in" ["span", "number"] (spIn)) : FnOk P w K mg base CX0 2 f fd ["wish", "other"] (spPieces) := by
  refine F.ok sc_law_pieces (fun vs H Q E h => ?_) (fun cdv A outer s H vs Q E hr h => ?_)
  · obtain ⟨a, b, w1, w2, rfl, hw, hw2, wd1, wd2, q⟩ := h
    rfl
  obtain ⟨a, b, w1, w2, rfl, hw, hw2, wd1, wd2, q⟩ := h
  refine ⟨_, (pss_cons (ps_set (i := 2) sc_law_pieces.nd rfl (Or.inr rfl) pe_dnewK)
      (pss_cons (ps_set (i := 3) sc_law_pieces.nd rfl (Or.inl rfl) pe_dnewK)
      (pss_cons (ps_for PassesOwn.never rfl (pi_tup (pv 0)) (pg_tup rfl (pgs_cons (pg_name (i := 4) sc_law_pieces.nd rfl (Or.inl rfl)) (pgs_cons (pg_name (i := 5) sc_law_pieces.nd rfl (Or.inr rfl)) (pgs_cons (pg_name (i := 6) sc_law_pieces.nd rfl (Or.inr rfl)) pgs_nil)))) (pss_cons (ps_set (i := 7) sc_law_pieces.nd rfl (Or.inl rfl) (pe_fn G_law_points (hr.mono (by decide)) rfl (pa_cons (pe_lst (pa_cons (pe_tup (pa_cons (pv 5) (pa_cons (pv 6) pa_nil))) (pa_cons (pe_fn G_law_span_of (hr.mono (by decide)) rfl (pa_cons (pv 1) (pa_cons (pv 4) pa_nil))) pa_nil))) pa_nil)))
      (pss_cons (ps_dput (hu_of hr) (pv 3) (pv 4) (pe_lc (N' := ["k", "low", "high"]) (js := [none, some 5, some 6]) rfl (capOk (N := ["wish", "other", "first", "rows", "field", "low", "high", "points", "pieces", "number", "numbers"]) (outer := defScope s_law_pieces) (by decide +kernel)) (pi_list (pv 7)) (fun _ _ _ _ _ => (pg_name (i := 0) (show List.Nodup (["k", "low", "high"] : List Str) by decide +kernel) rfl (Or.inl rfl))) (fun _ _ _ _ _ => pifs_one (pt_val (pe_fn G_law_in (hr.mono (by decide)) rfl (pa_cons (pe_tup (pa_cons (pv 1) (pa_cons (pv 2) pa_nil))) (pa_cons (pv 0) pa_nil))))) (fun _ _ _ _ _ => (pv 0))) rfl)
      (pss_one (ps_dput (hu_of hr) (pv 2) (pv 4) (pe_ix ix_list (pe_dget (hu_of hr) (pv 3) (pv 4) (fun _ _ => rfl)) pe_int (fun _ _ => rfl)) rfl)))))
      (pss_cons (ps_set (i := 8) sc_law_pieces.nd rfl (Or.inl rfl) (pe_lst (pa_cons (pe_callTy call_tuple_of rfl B.tuple_ bt_tuple (pa_cons (pe_lc (N' := ["field", "first"]) (js := [none, some 2]) rfl (capOk (N := ["wish", "other", "first", "rows", "field", "low", "high", "points", "pieces", "number", "numbers"]) (outer := defScope s_law_pieces) (by decide +kernel)) (pi_list (pe_callB (call_sortedD rfl) rfl B.sorted_ bt_sorted (pa_cons (pv 2) pa_nil))) (fun _ _ _ _ _ => (pg_name (i := 0) (show List.Nodup (["field", "first"] : List Str) by decide +kernel) rfl (Or.inl rfl))) (fun _ _ _ _ _ => pifs_nil) (fun _ _ _ _ _ => (pe_tup (pa_cons (pv 0) (pa_cons (pe_dget (hu_of hr) (pv 1) (pv 0) (fun _ _ => rfl)) pa_nil))))) pa_nil)) pa_nil)))
      (pss_cons (ps_for PassesOwn.never rfl (pi_list (pe_callB (call_sortedD rfl) rfl B.sorted_ bt_sorted (pa_cons (pv 2) pa_nil))) (pg_name (i := 4) sc_law_pieces.nd rfl (Or.inl rfl)) (pss_one (ps_for PassesOwn.never rfl (pi_list (pe_dget (hu_of hr) (pv 3) (pv 4) (fun _ _ => rfl))) (pg_name (i := 9) sc_law_pieces.nd rfl (Or.inl rfl)) (pss_cons (ps_set (i := 10) sc_law_pieces.nd rfl (Or.inr rfl) (pe_callTy (call_dictD rfl) rfl B.dict_ bt_dict (pa_cons (pv 2) pa_nil)))
      (pss_cons (ps_dput (hu_of hr) (pv 10) (pv 4) (pv 9) rfl)
      (pss_one (ps_expr (pe_bm PySem.F.plainAttrs_list PySem.F.slot_list_append PySem.F.type_list_append mt_append (pv 8) (pa_cons (pe_callTy call_tuple_of rfl B.tuple_ bt_tuple (pa_cons (pe_lc (N' := ["name", "numbers"]) (js := [none, some 10]) rfl (capOk (N := ["wish", "other", "first", "rows", "field", "low", "high", "points", "pieces", "number", "numbers"]) (outer := defScope s_law_pieces) (by decide +kernel)) (pi_list (pe_callB (call_sortedD rfl) rfl B.sorted_ bt_sorted (pa_cons (pv 10) pa_nil))) (fun _ _ _ _ _ => (pg_name (i := 0) (show List.Nodup (["name", "numbers"] : List Str) by decide +kernel) rfl (Or.inl rfl))) (fun _ _ _ _ _ => pifs_nil) (fun _ _ _ _ _ => (pe_tup (pa_cons (pv 0) (pa_cons (pe_dget (hu_of hr) (pv 1) (pv 0) (fun _ _ => rfl)) pa_nil))))) pa_nil)) pa_nil)))))))))
      (pss_one (ps_ret (pv 8)))))))), ?_⟩
  intro d1 hd1
  have s0 := same_new hd1 (.dK [])
  intro d2 hd2
  have s1 := same_new hd2 (.dK [])
  have d12 : d1 ≠ d2 := fun e => by rw [← e, upd_same] at hd2; cases hd2
  have n2 : H d2 = none := none_of s0 hd2
  have t0 := s0.trans s1
  have e1 : (upd (upd H d1 (.dK [])) d2 (.dK [])) d1 = some (.dK []) := by rw [upd_ne d12]; exact upd_same
  have e2 : (upd (upd H d1 (.dK [])) d2 (.dK [])) d2 = some (.dK []) := upd_same
  generalize upd (upd H d1 (.dK [])) d2 (.dK []) = H0 at *
  have wok := wd1.wok
  obtain ⟨ps, rfl, hA, hP⟩ := hw
  have ll : ps.length ≤ 9 := by have := wd1.len; rw [List.length_map] at this; exact this
  refine ⟨_, rfl, a, rfl, ⟨_, SqT.of (t0 _ _ hA)⟩, for_tup (K := K) (a := a) (xs := ps.map fun (p : Addr × WP) => V.ref p.1) (fun i σ H' => (∃ y4 y5 y6 y7, σ = [some (.ref a), some (.ref b), some (.ref d1), some (.ref d2), y4, y5, y6, y7, none, none, none]) ∧ Same H H' ∧ H' d1 = some (.dK (kvP (basePc ((ps.map (·.2)).take i) w2))) ∧
      ∃ kvs : List (Key × V), H' d2 = some (.dK kvs) ∧ kvs.length ≤ i ∧ ∀ p ∈ (ps.map (·.2)).take i, ∃ t, valV kvs (.inr p.1) = some (.ref t) ∧ H' t = some (.lst ((rowOf w2 p).map V.int))) ⟨⟨none, none, none, none, rfl⟩, t0, e1, [], e2, Nat.zero_le _, fun p hp => by simp at hp⟩ (fun i σ H' _ ⟨_, s, _⟩ => SqT.of (s _ _ hA)) ?_ ?_⟩
  · rintro i x σ H1 hx ⟨⟨y4, y5, y6, y7, rfl⟩, sH, k1, kvs, k2, k3, k4⟩
    rw [List.getElem?_map] at hx
    cases ep : ps[i]? with
    | none => rw [ep] at hx; cases hx
    | some P1 =>
      rw [ep] at hx
      obtain rfl : V.ref P1.1 = x := Option.some.inj hx
      have hm := List.mem_of_getElem? ep
      have li := (List.getElem?_eq_some_iff.mp ep).1
      have ew : (ps.map (·.2))[i]? = some P1.2 := by rw [List.getElem?_map, ep]; rfl
      have fr := spanOf_no (wok.fresh ew)
      have le1 := (wok.ok P1.2 (List.mem_map_of_mem hm)).2
      refine ⟨P1.1, _, rfl, SqT.of (sH _ _ (hP P1 hm)), rfl, _, _, rfl, _, _, rfl, _, _, rfl, rfl, ?_⟩
      refine ⟨_, rfl, _, rfl, (by show 2 ≤ sizeLine; decide), fun u hu => ?_⟩
      have su := same_new hu (.tup [eV P1.2.2.1, eV P1.2.2.2])
      have eu : (upd H1 u (.tup [eV P1.2.2.1, eV P1.2.2.2])) u = some (.tup [eV P1.2.2.1, eV P1.2.2.2]) := upd_same
      generalize upd H1 u (.tup [eV P1.2.2.1, eV P1.2.2.2]) = H1' at *
      refine ⟨_, rfl, _, rfl, b, w2, P1.2.1, rfl, hw2.same (sH.trans su), wd2.wok, fun v H2 s2 sp => ?_⟩
      obtain ⟨va, rfl, ev⟩ := sp
      refine ⟨(by show 2 ≤ sizeLine; decide), fun lx hlx => ?_⟩
      have sl := same_new hlx (.lst [V.ref u, V.ref va])
      refine ⟨lx, [(u, P1.2.2.1, P1.2.2.2), (va, (spanOr w2 P1.2.1).1, (spanOr w2 P1.2.1).2)], rfl, SqL.of upd_same, ?_, by simp, fun r H3 s3 e3 => ?_⟩
      · intro s hs
        simp only [List.mem_cons, List.not_mem_nil, or_false] at hs
        rcases hs with rfl | rfl
        · exact sl _ _ (s2 _ _ eu)
        · exact sl _ _ ev
      have s13 : Same H1 H3 := su.trans (s2.trans (sl.trans s3))
      have e3' : H3 r = some (.lst ((ptsOf [(P1.2.2.1, P1.2.2.2), spanOr w2 P1.2.1]).map V.int)) := e3
      refine ⟨_, rfl, r, rfl, ⟨_, SqL.of e3'⟩, fun p hp => ?_⟩
      refine lc_intsS (cap := [some (eV P1.2.2.1), some (eV P1.2.2.2)]) (ptsOf [(P1.2.2.1, P1.2.2.2), spanOr w2 P1.2.1]) (inB P1.2.2.1 P1.2.2.2) (by have := pts_len [(P1.2.2.1, P1.2.2.2), spanOr w2 P1.2.1]; simp at this; omega) (SqL.of e3') hp rfl ?_ ?_ ?_
      · intro m H' R s' hR
        refine ⟨_, rfl, _, rfl, (by show 2 ≤ sizeLine; decide), fun z hz => ?_⟩
        have sz := same_new hz (.tup [eV P1.2.2.1, eV P1.2.2.2])
        exact ⟨_, rfl, .ref z, P1.2.2.1, P1.2.2.2, m, rfl, ⟨z, rfl, upd_same⟩, _, rfl, hR _ sz⟩
      · exact fun m H' R s' hr' => ⟨_, rfl, hr'⟩
      intro H4 s4 e4
      have s14 := s13.trans s4
      have k14 := s14 _ _ k1
      have k24 := s14 _ _ k2
      have e4' : H4 p = some (.lst ((rowOf w2 P1.2).map V.int)) := e4
      have pd2 : p ≠ d2 := ne_of e4' k24 (by intro z; cases z)
      have pd1 : p ≠ d1 := ne_of e4' k14 (by intro z; cases z)
      refine ⟨_, rfl, _, rfl, d2, _, rfl, DPut.k (k := Sum.inr P1.2.1) k24 (small1000 (by omega)), ?_⟩
      obtain ⟨m0, rr, er⟩ : ∃ m0 rr, rowOf w2 P1.2 = m0 :: rr := by
        cases h : rowOf w2 P1.2 with
        | nil => exact absurd h (row_ne le1)
        | cons m0 rr => exact ⟨m0, rr, rfl⟩
      have f0 : firstOf w2 P1.2 = m0 := by unfold firstOf; rw [er]; rfl
      have k25 : (upd H4 d2 (.dK (putK kvs (Sum.inr P1.2.1 : Key) (V.ref p)))) d2 = some (.dK (putK kvs (Sum.inr P1.2.1 : Key) (V.ref p))) := upd_same
      have k15 : (upd H4 d2 (.dK (putK kvs (Sum.inr P1.2.1 : Key) (V.ref p)))) d1 = some (.dK (kvP (basePc ((ps.map (·.2)).take i) w2))) := by rw [upd_ne d12]; exact k14
      have e5 : (upd H4 d2 (.dK (putK kvs (Sum.inr P1.2.1 : Key) (V.ref p)))) p = some (.lst ((rowOf w2 P1.2).map V.int)) := by rw [upd_ne pd2]; exact e4'
      have sH5 : Same H (upd H4 d2 (.dK (putK kvs (Sum.inr P1.2.1 : Key) (V.ref p)))) := upd_off (sH.trans s14) n2
      have old5 : ∀ c xs, H4 c = some (.lst xs) → (upd H4 d2 (.dK (putK kvs (Sum.inr P1.2.1 : Key) (V.ref p)))) c = some (.lst xs) := fun c xs h => by rw [upd_ne (ne_of h k24 (by intro z; cases z))]; exact h
      generalize upd H4 d2 (.dK (putK kvs (Sum.inr P1.2.1 : Key) (V.ref p))) = H5 at *
      have gd : DGet H5 d2 (.str P1.2.1) (some (.ref p)) := by
        have := DGet.k (k := Sum.inr P1.2.1) k25
        rw [valV_put, if_pos rfl] at this
        exact this
      rw [er] at e5
      refine ⟨_, rfl, _, rfl, d2, _, rfl, gd, p, _, 0, _, rfl, rfl, SqL.of e5, at0, ?_⟩
      have hbl : (basePc ((ps.map (·.2)).take i) w2).length ≤ i := by unfold basePc; rw [List.length_map, List.length_take]; omega
      refine ⟨_, rfl, _, rfl, d1, _, rfl, DPut.k (k := Sum.inr P1.2.1) k15 (small1000 (by unfold kvP; rw [List.length_map]; omega)), ⟨_, _, _, _, rfl⟩, upd_off sH5 hd1, ?_, putK kvs (Sum.inr P1.2.1 : Key) (V.ref p), ?_, ?_, ?_⟩
      · rw [upd_same, putK_new, take_snoc ew]
        · unfold basePc kvP
          rw [List.map_append, List.map_append, ← f0]
          rfl
        · rw [valV_kvP, numIn_none, Option.map_none]
          intro x hx
          obtain ⟨y, hy, rfl⟩ := List.mem_map.mp hx
          exact fr y hy
      · rw [upd_ne d12.symm]; exact k25
      · have := length_putK kvs (Sum.inr P1.2.1 : Key) (V.ref p)
        omega
      · intro y hy
        rw [take_snoc ew] at hy
        rcases List.mem_append.mp hy with z | z
        · obtain ⟨t, q1, q2⟩ := k4 y z
          have q5 := old5 _ _ (s14 _ _ q2)
          refine ⟨t, ?_, by rw [upd_ne (ne_of q5 k15 (by intro z; cases z))]; exact q5⟩
          rw [valV_put, if_neg (fun e => fr y z (by injection e))]
          exact q1
        · rw [List.mem_singleton.mp z]
          refine ⟨p, by rw [valV_put, if_pos rfl], ?_⟩
          rw [upd_ne pd1, er]
          exact e5
  · rintro σ H1 ⟨⟨y4, y5, y6, y7, rfl⟩, sH, k1, kvs, k2, k3, k4⟩
    have et : (ps.map (·.2)).take (ps.map fun (p : Addr × WP) => V.ref p.1).length = ps.map (·.2) := List.take_of_length_le (by simp)
    rw [et] at k1 k4
    have base0 : ∃ bs, basePc (ps.map (·.2)) w2 = bs := ⟨_, rfl⟩
    obtain ⟨bs, ebs⟩ := base0
    generalize hW : ps.map (·.2) = W at *
    have lW : W.length ≤ 9 := wd1.len
    rw [ebs] at k1
    have basek : bs.map (·.1) = W.map (·.1) := by rw [← ebs]; unfold basePc; rw [List.map_map]; rfl
    have basc : (bs.map (·.1)).Pairwise ltF := by rw [basek]; exact wd1.asc
    have bl : bs.length ≤ 9 := by rw [← ebs]; unfold basePc; rw [List.length_map]; exact lW
    refine ⟨_, rfl, d1, kvP bs, bs.map (·.1), rfl, k1, kvP_keys bs, (by rw [List.length_map]; omega), fun z ms mp mn mso hz => ?_⟩
    obtain rfl := same_sort mp mn mso basc
    have sz := same_new hz (.lst ((bs.map (·.1)).map V.str))
    refine ⟨z, rfl, ⟨_, SqL.of upd_same⟩, fun p hp => ?_⟩
    refine lc_piece (cap := [some (.ref d1)]) bs (by omega) (SqL.of upd_same) hp rfl ?_ ?_
    · intro x hx H' R s' hR
      have kd := s' _ _ (sz _ _ k1)
      have gd : DGet H' d1 (.str x.1) (some (.int x.2)) := by
        have := DGet.k (k := Sum.inr x.1) kd
        rw [valV_kvP, numIn_self basc hx] at this
        exact this
      exact ⟨_, rfl, _, rfl, _, rfl, d1, _, rfl, gd, (by show 2 ≤ sizeLine; decide), hR⟩
    intro H2 qs s2 q1 q2 q3
    refine ⟨p, _, rfl, .inl ⟨SqL.of q2, fun t ht => ?_⟩⟩
    have st := same_new ht (.tup (qs.map fun q => V.ref q.1))
    have et0 : (upd H2 t (.tup (qs.map fun q => V.ref q.1))) t = some (.tup (qs.map fun q => V.ref q.1)) := upd_same
    refine ⟨(by show 1 ≤ sizeLine; decide), fun l hl => ?_⟩
    have sl := same_new hl (.lst [V.ref t])
    have s13 : Same H1 (upd (upd H2 t (.tup (qs.map fun q => V.ref q.1))) l (.lst [V.ref t])) := (sz.trans s2).trans (st.trans sl)
    have P0 : PieceAt (upd (upd H2 t (.tup (qs.map fun q => V.ref q.1))) l (.lst [V.ref t])) t bs := ⟨qs, q1, sl _ _ et0, fun q hq => sl _ _ (st _ _ (q3 q hq))⟩
    have el : (upd (upd H2 t (.tup (qs.map fun q => V.ref q.1))) l (.lst [V.ref t])) l = some (.lst [V.ref t]) := upd_same
    have nl1 : H1 l = none := none_of ((sz.trans s2).trans st) hl
    generalize upd (upd H2 t (.tup (qs.map fun q => V.ref q.1))) l (.lst [V.ref t]) = H3 at *
    have nl : H l = none := none_of sH nl1
    refine ⟨_, rfl, d1, kvP bs, bs.map (·.1), rfl, s13 _ _ k1, kvP_keys bs, (by rw [List.length_map]; omega), fun z2 ms2 mp2 mn2 mso2 hz2 => ?_⟩
    obtain rfl := same_sort mp2 mn2 mso2 basc
    have sz2 := same_new hz2 (.lst ((bs.map (·.1)).map V.str))
    have ez2 : (upd H3 z2 (.lst ((bs.map (·.1)).map V.str))) z2 = some (.lst (W.map fun p => V.str p.1)) := by
      rw [upd_same, basek, List.map_map]
      rfl
    have el4 := sz2 _ _ el
    have P4 := P0.same sz2
    have s14 := s13.trans sz2
    have z2l : z2 ≠ l := fun e => by rw [e] at hz2; rw [hz2] at el; cases el
    generalize upd H3 z2 (.lst ((bs.map (·.1)).map V.str)) = H4 at *
    have sH4 : Same H H4 := sH.trans s14
    have d1l : d1 ≠ l := fun e => by rw [e, nl1] at k1; cases k1
    have d2l : d2 ≠ l := fun e => by rw [e, nl1] at k2; cases k2
    refine ⟨z2, rfl, ⟨_, SqL.of ez2⟩, for_list (K := K) (a := z2) (xs := W.map fun p => V.str p.1) (fun i σ H' => (∃ y4 y5 y6 y7 y9 y10, σ = [some (.ref a), some (.ref b), some (.ref d1), some (.ref d2), y4, y5, y6, y7, some (.ref l), y9, y10]) ∧ (∀ c o, H4 c = some o → c ≠ l → H' c = some o) ∧ PiecesAt H' l (bs :: (W.take i).flatMap fun p => (rowOf w2 p).map (setPc bs p.1))) ?_ ?_ ?_ ?_⟩
    · refine ⟨⟨_, _, _, _, _, _, rfl⟩, fun c o h _ => h, [(t, bs)], rfl, el4, fun q hq => ?_⟩
      rw [List.mem_singleton.mp hq]
      exact P4
    · rintro i σ H' _ ⟨_, kp, _⟩
      exact SqL.of (kp _ _ ez2 z2l)
    · rintro i x σ H5 hx ⟨⟨y4, y5, y6, y7, y9, y10, rfl⟩, kp, pa⟩
      rw [List.getElem?_map] at hx
      cases eW : W[i]? with
      | none => rw [eW] at hx; cases hx
      | some p1 =>
        rw [eW] at hx
        obtain rfl : V.str p1.1 = x := Option.some.inj hx
        have hpW := List.mem_of_getElem? eW
        have li := (List.getElem?_eq_some_iff.mp eW).1
        obtain ⟨tr, r1, r2⟩ := k4 p1 hpW
        have trl : tr ≠ l := fun e => by rw [e, nl1] at r2; cases r2
        have gd : DGet H5 d2 (.str p1.1) (some (.ref tr)) := by
          have := DGet.k (k := Sum.inr p1.1) (kp _ _ (s14 _ _ k2) d2l)
          rw [r1] at this
          exact this
        have r4 := s14 _ _ r2
        have fin1 : p1.1 ∈ bs.map (·.1) := by rw [basek]; exact List.mem_map_of_mem hpW
        refine ⟨_, rfl, _, rfl, d2, _, rfl, gd, tr, rfl, ⟨_, SqL.of (kp _ _ r4 trl)⟩, for_list (K := K) (a := tr) (xs := (rowOf w2 p1).map V.int) (fun j σ H' => (∃ y5 y6 y7 y9 y10, σ = [some (.ref a), some (.ref b), some (.ref d1), some (.ref d2), some (.str p1.1), y5, y6, y7, some (.ref l), y9, y10]) ∧ (∀ c o, H4 c = some o → c ≠ l → H' c = some o) ∧ PiecesAt H' l ((bs :: (W.take i).flatMap fun p => (rowOf w2 p).map (setPc bs p.1)) ++ ((rowOf w2 p1).take j).map (setPc bs p1.1))) ?_ ?_ ?_ ?_⟩
        · refine ⟨⟨_, _, _, _, _, rfl⟩, kp, ?_⟩
          rw [List.take_zero, List.map_nil, List.append_nil]
          exact pa
        · rintro j σ H' _ ⟨_, kp', _⟩
          exact SqL.of (kp' _ _ r4 trl)
        · rintro j x σ H6 hx ⟨⟨y5, y6, y7, y9, y10, rfl⟩, kp6, pa6⟩
          rw [List.getElem?_map] at hx
          cases eR : (rowOf w2 p1)[j]? with
          | none => rw [eR] at hx; cases hx
          | some m =>
            rw [eR] at hx
            obtain rfl : V.int m = x := Option.some.inj hx
            have kd1 := kp6 _ _ (s14 _ _ k1) d1l
            refine ⟨_, rfl, d1, kvP bs, rfl, kd1, fun d hd => ?_⟩
            refine ⟨_, rfl, _, rfl, _, rfl, d, _, rfl, DPut.k (k := Sum.inr p1.1) upd_same (small1000 (by unfold kvP; rw [List.length_map]; omega)), ?_⟩
            rw [upd_upd, putK_set bs p1.1 m fin1]
            have sd := same_new hd (.dK (kvP (setPc bs p1.1 m)))
            have ed : (upd H6 d (.dK (kvP (setPc bs p1.1 m)))) d = some (.dK (kvP (setPc bs p1.1 m))) := upd_same
            obtain ⟨qs6, g1, g2, g3⟩ := pa6
            have g2' := sd _ _ g2
            generalize upd H6 d (.dK (kvP (setPc bs p1.1 m))) = H7 at *
            have sk := setPc_keys bs p1.1 m
            have sasc : ((setPc bs p1.1 m).map (·.1)).Pairwise ltF := by rw [sk]; exact basc
            have sln : (setPc bs p1.1 m).length ≤ 9 := by unfold setPc; rw [List.length_map]; exact bl
            refine ⟨_, rfl, .inl ⟨rfl, _, SqL.of g2'⟩, _, rfl, d, kvP (setPc bs p1.1 m), (setPc bs p1.1 m).map (·.1), rfl, ed, kvP_keys _, (by rw [List.length_map]; omega), fun z3 ms3 mp3 mn3 mso3 hz3 => ?_⟩
            obtain rfl := same_sort mp3 mn3 mso3 sasc
            have sz3 := same_new hz3 (.lst (((setPc bs p1.1 m).map (·.1)).map V.str))
            refine ⟨z3, rfl, ⟨_, SqL.of upd_same⟩, fun p3 hp3 => ?_⟩
            refine lc_piece (cap := [some (.ref d)]) (setPc bs p1.1 m) (by omega) (SqL.of upd_same) hp3 rfl ?_ ?_
            · intro x hx H' R s' hR
              have kd := s' _ _ (sz3 _ _ ed)
              have gd : DGet H' d (.str x.1) (some (.int x.2)) := by
                have := DGet.k (k := Sum.inr x.1) kd
                rw [valV_kvP, numIn_self sasc hx] at this
                exact this
              exact ⟨_, rfl, _, rfl, _, rfl, d, _, rfl, gd, (by show 2 ≤ sizeLine; decide), hR⟩
            intro H8 qs8 s8 v1 v2 v3
            refine ⟨p3, _, rfl, .inl ⟨SqL.of v2, fun t9 ht9 => ?_⟩⟩
            have st9 := same_new ht9 (.tup (qs8.map fun q => V.ref q.1))
            have s69 : Same H6 (upd H8 t9 (.tup (qs8.map fun q => V.ref q.1))) := sd.trans ((sz3.trans s8).trans st9)
            have g9 := s69 _ _ g2
            have P9 : PieceAt (upd H8 t9 (.tup (qs8.map fun q => V.ref q.1))) t9 (setPc bs p1.1 m) := ⟨qs8, v1, upd_same, fun q hq => st9 _ _ (v3 q hq)⟩
            generalize upd H8 t9 (.tup (qs8.map fun q => V.ref q.1)) = H9 at *
            have lq : qs6.length ≤ 200 := by
              have h1 := congrArg List.length g1
              rw [List.length_map, List.length_append, List.length_cons, List.length_map] at h1
              have h2 := flat_len w2 bs (W.take i)
              have h3 := row_len w2 p1
              rw [List.length_take] at h1 h2
              omega
            refine ⟨l, _, _, rfl, rfl, g9, (by rw [List.length_map]; exact small1000 (by omega)), ⟨_, _, _, _, _, rfl⟩, fun c o h cl => ?_, qs6 ++ [(t9, setPc bs p1.1 m)], ?_, ?_, ?_⟩
            · rw [upd_ne cl]
              exact s69 _ _ (kp6 c o h cl)
            · rw [List.map_append, g1, take_snoc eR, List.map_append, List.append_assoc]
              rfl
            · rw [upd_same, List.map_append]; rfl
            · have tl := tups_lst (o := .lst (qs6.map (fun q => V.ref q.1) ++ [V.ref t9])) g9
              intro q hq
              rcases List.mem_append.mp hq with zz | zz
              · exact (g3 q zz).keep (s69.tups.trans tl)
              · rw [List.mem_singleton.mp zz]
                exact P9.keep tl
        · rintro σ H6 ⟨⟨y5, y6, y7, y9, y10, rfl⟩, kp6, pa6⟩
          refine ⟨⟨_, _, _, _, _, _, rfl⟩, kp6, ?_⟩
          rw [show (rowOf w2 p1).take ((rowOf w2 p1).map V.int).length = rowOf w2 p1 from List.take_of_length_le (by simp)] at pa6
          rw [take_snoc eW, List.flatMap_append]
          simpa using pa6
    · rintro σ H5 ⟨⟨y4, y5, y6, y7, y9, y10, rfl⟩, kp, pa⟩
      rw [show W.take (W.map fun p => V.str p.1).length = W from List.take_of_length_le (by simp)] at pa
      refine ⟨_, rfl, q l H5 (fun c o h => kp c o (sH4 c o h) (fun e => by rw [e, nl] at h; cases h)) ?_⟩
      unfold piecesOf
      rw [ebs]
      exact pa

theorem sc_law_right : FnScope ["one", "other", "turned", "due", "piece", "found"] ["one", "other", "turned"] (defScope s_law_right) := ⟨rfl, rfl, rfl, by decide +kernel, rfl, by decide +kernel, by decide +kernel⟩
theorem ok_law_right {f : Addr} {fd : FuncData} (F : Fun K "_law_right" "_law_right" s_law_right f fd) (B : Bl mg) {t_MOST_LETTERS : Tok} (C_MOST_LETTERS : mg "MOST_LETTERS" = some (.int 8 t_MOST_LETTERS)) (G_covers : FnH P w K mg base 7 "covers" ["one", "other"] (spCoversW)) (G_parting_piece : FnH P w K mg base 7 "parting_piece" ["one", "other"] (spParting)) (G_law_wants : FnH P w K mg base 2 "_law_wants" ["wish", "piece"] (spTakes)) (G_wants : FnH P w K mg base 7 "wants" ["wish", "piece"] (spWants)) (G_law_is_made : FnH P w K mg base 3 "_law_is_made" ["thing", "size"] (spLawMade2)) (G_law_pieces : FnH P w K mg base 2 "_law_pieces" ["wish", "other"] (spPieces)) : FnOk P w K mg base CX0 8 f fd ["one", "other", "turned"] (spRight6) := by
  refine F.ok sc_law_right (fun vs H Q E h => ?_) (fun cdv A outer s H vs Q E hr h => ?_)
  · obtain ⟨a, b, t, w1, w2, rfl, hw, hw2, d1, d2, q⟩ := h
    rfl
  obtain ⟨a, b, t, w1, w2, rfl, hw, hw2, d1, d2, q⟩ := h
  refine ⟨_, (pss_cons (ps_set (i := 3) sc_law_right.nd rfl (Or.inl rfl) (pe_cmpR (op_eqD (roomD_of hr)) (pe_lc (N' := ["piece", "one"]) (js := [none, some 0]) rfl (capOk (N := ["one", "other", "turned", "due", "piece", "found"]) (outer := defScope s_law_right) (by decide +kernel)) (pi_list (pe_fn G_law_pieces (hr.mono (by decide)) rfl (pa_cons (pv 1) (pa_cons (pv 0) pa_nil)))) (fun _ _ _ _ _ => (pg_name (i := 0) (show List.Nodup (["piece", "one"] : List Str) by decide +kernel) rfl (Or.inl rfl))) (fun _ _ _ _ _ => pifs_one (pt_not (pt_val (pe_fn G_law_wants (hr.mono (by decide)) rfl (pa_cons (pv 1) (pa_cons (pv 0) pa_nil)))))) (fun _ _ _ _ _ => (pv 0))) (pe_lst pa_nil) (nomark _)))
      (pss_cons (ps_set (i := 4) sc_law_right.nd rfl (Or.inl rfl) (pe_ifExp (pt_val (pv 2)) (pe_fn G_parting_piece (hr.mono (by decide)) rfl (pa_cons (pv 1) (pa_cons (pv 0) pa_nil))) pe_non))
      (pss_cons (ps_set (i := 5) sc_law_right.nd rfl (Or.inl rfl) (pe_fn G_covers (hr.mono (by decide)) rfl (pa_cons (pv 0) (pa_cons (pv 1) pa_nil))))
      (pss_cons (ps_set (i := 4) sc_law_right.nd rfl (Or.inl rfl) (pe_ifExp (pt_val (pv 2)) (pv 4) (pe_fn G_parting_piece (hr.mono (by decide)) rfl (pa_cons (pv 1) (pa_cons (pv 0) pa_nil)))))
      (pss_cons (ps_if (PW.pt (pw_or (pt_not (pt_val (pe_callB (call_isinst (n := "")) rfl B.isinstance_ bt_isinstance (pa_cons (pv 5) (pa_cons (pe_bltn (v := .ty "bool") rfl B.bool_ bt_bool rfl) pa_nil))))) (pw_or1 (pt_cmpR op_ne (pv 5) (pv 3) (nomark _))))) (pss_one (ps_ret pe_bl)) pss_nil)
      (pss_cons (ps_if (pt_val (pv 3)) (pss_one (ps_ret (pe_cmp (pc_isN (pv 4))))) pss_nil)
      (pss_cons (ps_if (PW.pt (pw_or (pt_not (pt_val (pe_fn G_law_is_made (hr.mono (by decide)) rfl (pa_cons (pv 4) (pa_cons pe_int pa_nil))))) (pw_or (pt_not (pt_val (pe_fn G_law_wants (hr.mono (by decide)) rfl (pa_cons (pv 1) (pa_cons (pv 4) pa_nil))))) (pw_or1 (pt_val (pe_fn G_law_wants (hr.mono (by decide)) rfl (pa_cons (pv 0) (pa_cons (pv 4) pa_nil)))))))) (pss_one (ps_ret pe_bl)) pss_nil)
      (pss_one (ps_ret (pe_and (pe_fn G_wants (hr.mono (by decide)) rfl (pa_cons (pv 1) (pa_cons (pv 4) pa_nil))) (pe_one (pe_not (pe_fn G_wants (hr.mono (by decide)) rfl (pa_cons (pv 0) (pa_cons (pv 4) pa_nil))))))))))))))), ?_⟩
  refine ⟨_, rfl, _, rfl, b, a, w2, w1, rfl, hw2, hw, d2, d1, fun r H1 s1 pa => ?_⟩
  obtain ⟨qs, g1, g2, g3⟩ := pa
  have lq : qs.length ≤ 200 := by
    have h1 := congrArg List.length g1
    unfold piecesOf at h1
    rw [List.length_map, List.length_cons] at h1
    have h2 := flat_len w1 (basePc w2 w1) w2
    have := d2.len
    omega
  have hw1 := hw.same s1
  have pok : ∀ q ∈ qs, POk q.2 := fun q hq => pieces_ok d2 (by rw [← g1]; exact List.mem_map_of_mem hq)
  refine ⟨r, rfl, ⟨_, SqL.of g2⟩, fun p hp => ?_⟩
  refine lc_list (xs := qs.map fun q => V.ref q.1) (fun i σ' ys H' => (∃ v, σ' = [v, some (.ref a)]) ∧ Same H1 H' ∧ H' p = some (.lst ys) ∧ ys = ((qs.take i).filter fun q => !takesW w1 q.2).map fun q => V.ref q.1) ⟨⟨none, rfl⟩, same_new hp _, upd_same, rfl⟩ ?_ ?_ ?_
  · rintro i σ' ys H' hi ⟨_, s, h1, rfl⟩
    refine ⟨s.seq (SqL.of g2), h1, ?_⟩
    rw [List.length_map]
    have := List.length_filter_le (fun q : Addr × List PP => !takesW w1 q.2) (qs.take i)
    rw [List.length_take] at this
    exact small1000 (by omega)
  · rintro i x σ' ys H' N hx ⟨⟨v, rfl⟩, s, h1, rfl⟩ hN
    rw [List.getElem?_map] at hx
    cases e1 : qs[i]? with
    | none => rw [e1] at hx; cases hx
    | some q1 =>
      rw [e1] at hx
      obtain rfl : V.ref q1.1 = x := Option.some.inj hx
      have hm := List.mem_of_getElem? e1
      refine ⟨_, rfl, _, rfl, a, q1.1, w1, q1.2, rfl, hw1.same s, (g3 q1 hm).same s, pok q1 hm, fun H2 s2 => ⟨_, rfl, ?_⟩⟩
      cases hb : takesW w1 q1.2 with
      | true =>
        refine iteF (hN _ _ _ ⟨⟨_, rfl⟩, s.trans s2, s2 _ _ h1, ?_⟩)
        rw [take_snoc e1, List.filter_append, List.filter_cons, hb]
        simp
      | false =>
        refine iteT ⟨_, rfl, s2 _ _ h1, hN _ _ _ ⟨⟨_, rfl⟩, upd_off (s.trans s2) hp, upd_same, ?_⟩⟩
        rw [take_snoc e1, List.filter_append, List.filter_cons, hb, List.map_append]
        rfl
  · rintro σ' ys H2 ⟨_, s2, h2, rfl⟩
    rw [show qs.take (qs.map fun q => V.ref q.1).length = qs from List.take_of_length_le (by simp)] at h2
    refine ⟨sz0, fun z hz => ?_⟩
    have sz := same_new hz (.lst [])
    have t2 := s2.trans sz
    refine eqNilP (SqL.of (sz _ _ h2)) (fun q hq => (g3 q (List.mem_filter.mp hq).1).same t2) (SqL.of upd_same) ?_
    have edue : (qs.filter fun q => !takesW w1 q.2).isEmpty = reachW w1 w2 := by
      rw [← due_reach d2 d1, ← g1, List.all_map]
      cases hall : qs.all (takesW w1 ∘ fun x => x.2) with
      | true =>
        rw [List.isEmpty_iff, List.filter_eq_nil_iff]
        intro q hq
        have := List.all_eq_true.mp hall q hq
        simp at this ⊢
        exact this
      | false =>
        obtain ⟨q, hq, hf⟩ := List.all_eq_false.mp hall
        rw [List.isEmpty_eq_false_iff]
        exact List.ne_nil_of_mem (List.mem_filter.mpr ⟨hq, by simpa using hf⟩)
    rw [edue]
    have t0 := s1.trans t2
    generalize upd H2 z (.lst []) = H3 at *
    cases hR : reachW w1 w2 with
    | true =>
      cases t with
      | true =>
        refine ⟨_, rfl, _, rfl, iteT ⟨_, rfl, _, rfl, b, a, w2, w1, rfl, hw2.same t0, hw.same t0, d2.wok, d1.wok, fun _ H4 s4 => ?_, fun h => absurd h (by rw [hR]; simp)⟩⟩
        refine ⟨_, rfl, _, rfl, a, b, w1, w2, rfl, hw.same (t0.trans s4), hw2.same (t0.trans s4), d1.wok, d2.wok, fun H5 s5 => ?_⟩
        rw [hR]
        refine ⟨_, rfl, _, rfl, iteT ⟨_, rfl, ?_⟩⟩
        refine ⟨_, rfl, _, "bool", "bool", true, rfl, .bl _, rfl, _, rfl, iteF ⟨_, rfl, _, rfl, rfl, _, rfl, ite2 (fun h => absurd h (by simp)) (fun _ => ⟨_, rfl, _, rfl, iteT ⟨_, rfl, q _ ?_⟩⟩)⟩⟩
        exact (t0.trans (s4.trans s5))
      | false =>
        refine ⟨_, rfl, _, rfl, iteF ?_⟩
        refine ⟨_, rfl, _, rfl, a, b, w1, w2, rfl, hw.same t0, hw2.same t0, d1.wok, d2.wok, fun H4 s4 => ?_⟩
        rw [hR]
        refine ⟨_, rfl, _, rfl, iteF ⟨_, rfl, _, rfl, b, a, w2, w1, rfl, hw2.same (t0.trans s4), hw.same (t0.trans s4), d2.wok, d1.wok, fun _ H5 s5 => ?_, fun h => absurd h (by rw [hR]; simp)⟩⟩
        refine ⟨_, rfl, _, "bool", "bool", true, rfl, .bl _, rfl, _, rfl, iteF ⟨_, rfl, _, rfl, rfl, _, rfl, ite2 (fun h => absurd h (by simp)) (fun _ => ⟨_, rfl, _, rfl, iteT ⟨_, rfl, q _ ?_⟩⟩)⟩⟩
        exact (t0.trans (s4.trans s5))
    | false =>
      cases t with
      | true =>
        refine ⟨_, rfl, _, rfl, iteT ⟨_, rfl, _, rfl, b, a, w2, w1, rfl, hw2.same t0, hw.same t0, d2.wok, d1.wok, fun h => absurd h (by rw [hR]; simp), fun _ rr H4 s4 PA => ?_⟩⟩
        refine ⟨_, rfl, _, rfl, a, b, w1, w2, rfl, hw.same (t0.trans s4), hw2.same (t0.trans s4), d1.wok, d2.wok, fun H5 s5 => ?_⟩
        rw [hR]
        refine ⟨_, rfl, _, rfl, iteT ⟨_, rfl, ?_⟩⟩
        replace PA := PA.same s5
        refine ⟨_, rfl, _, "bool", "bool", true, rfl, .bl _, rfl, _, rfl, iteF ⟨_, rfl, _, rfl, rfl, _, rfl, ite2 (fun h => absurd h (by simp)) (fun _ => ⟨_, rfl, _, rfl, iteF ?_⟩)⟩⟩
        have tt := (t0.trans (s4.trans s5))
        have pk := part_ok (w' := w1) d2
        refine ⟨_, rfl, rr, partP w2 w1, rfl, PA, pk, fun H6 s6 => ⟨_, rfl, iteF ⟨_, rfl, _, rfl, b, rr, w2, partP w2 w1, rfl, (hw2.same tt).same s6, PA.same s6, pk, fun H7 s7 => ⟨_, rfl, ?_⟩⟩⟩⟩
        rw [part_takes d2]
        have t7 := s6.trans s7
        refine iteF ⟨_, rfl, _, rfl, a, rr, w1, partP w2 w1, rfl, (hw.same tt).same t7, PA.same t7, pk, fun H8 s8 => ⟨_, rfl, ?_⟩⟩
        rw [part_not d2 d1 hR]
        have t8 := t7.trans s8
        refine iteF ⟨_, rfl, _, rfl, b, rr, w2, partP w2 w1, rfl, (hw2.same tt).same t8, PA.same t8, d2.wok, pk, fun H9 s9 => ⟨_, rfl, ?_⟩⟩
        rw [part_takes d2]
        have t9 := t8.trans s9
        refine iteT ⟨_, rfl, _, rfl, a, rr, w1, partP w2 w1, rfl, (hw.same tt).same t9, PA.same t9, d1.wok, pk, fun H10 s10 => ?_⟩
        rw [part_not d2 d1 hR]
        exact ⟨_, rfl, q _ (tt.trans (t9.trans s10))⟩
      | false =>
        refine ⟨_, rfl, _, rfl, iteF ?_⟩
        refine ⟨_, rfl, _, rfl, a, b, w1, w2, rfl, hw.same t0, hw2.same t0, d1.wok, d2.wok, fun H4 s4 => ?_⟩
        rw [hR]
        refine ⟨_, rfl, _, rfl, iteF ⟨_, rfl, _, rfl, b, a, w2, w1, rfl, hw2.same (t0.trans s4), hw.same (t0.trans s4), d2.wok, d1.wok, fun h => absurd h (by rw [hR]; simp), fun _ rr H5 s5 PA => ?_⟩⟩
        refine ⟨_, rfl, _, "bool", "bool", true, rfl, .bl _, rfl, _, rfl, iteF ⟨_, rfl, _, rfl, rfl, _, rfl, ite2 (fun h => absurd h (by simp)) (fun _ => ⟨_, rfl, _, rfl, iteF ?_⟩)⟩⟩
        have tt := (t0.trans (s4.trans s5))
        have pk := part_ok (w' := w1) d2
        refine ⟨_, rfl, rr, partP w2 w1, rfl, PA, pk, fun H6 s6 => ⟨_, rfl, iteF ⟨_, rfl, _, rfl, b, rr, w2, partP w2 w1, rfl, (hw2.same tt).same s6, PA.same s6, pk, fun H7 s7 => ⟨_, rfl, ?_⟩⟩⟩⟩
        rw [part_takes d2]
        have t7 := s6.trans s7
        refine iteF ⟨_, rfl, _, rfl, a, rr, w1, partP w2 w1, rfl, (hw.same tt).same t7, PA.same t7, pk, fun H8 s8 => ⟨_, rfl, ?_⟩⟩
        rw [part_not d2 d1 hR]
        have t8 := t7.trans s8
        refine iteF ⟨_, rfl, _, rfl, b, rr, w2, partP w2 w1, rfl, (hw2.same tt).same t8, PA.same t8, d2.wok, pk, fun H9 s9 => ⟨_, rfl, ?_⟩⟩
        rw [part_takes d2]
        have t9 := t8.trans s9
        refine iteT ⟨_, rfl, _, rfl, a, rr, w1, partP w2 w1, rfl, (hw.same tt).same t9, PA.same t9, d1.wok, pk, fun H10 s10 => ?_⟩
        rw [part_not d2 d1 hR]
        exact ⟨_, rfl, q _ (tt.trans (t9.trans s10))⟩

theorem sc_law : FnScope ["script", "bag", "turn", "turned", "one", "other", "first", "second"] ["script"] (defScope s_law) := ⟨rfl, rfl, rfl, by decide +kernel, rfl, by decide +kernel, by decide +kernel⟩
theorem ok_law {f : Addr} {fd : FuncData} (F : Fun K "law" "law" s_law f fd) (B : Bl mg) {t_MOST_LETTERS : Tok} (C_MOST_LETTERS : mg "MOST_LETTERS" = some (.int 8 t_MOST_LETTERS)) (G_law_bag : FnH P w K mg base 1 "_law_bag" ["script"] (spBag K)) (G_law_two : FnH P w K mg base 5 "_law_two" ["bag"] (spTwo6)) (G_law_draw : FnH P w K mg base 1 "_law_draw" ["bag", "many"] (spDraw)) (G_law_right : FnH P w K mg base 8 "_law_right" ["one", "other", "turned"] (spRight6)) : FnOk P w K mg base CX0 9 f fd ["script"] (spLaw K) := by
  refine F.ok sc_law (fun vs H Q E h => ?_) (fun cdv A outer s H vs Q E hr h => ?_)
  · obtain ⟨a, ns, rfl, hS, h63, q⟩ := h
    rfl
  obtain ⟨a, ns, rfl, hS, h63, q⟩ := h
  refine ⟨_, (pss_cons (ps_set (i := 1) sc_law.nd rfl (Or.inl rfl) (pe_fn G_law_bag (hr.mono (by decide)) rfl (pa_cons (pv 0) pa_nil)))
      (pss_cons (ps_for PassesOwn.never rfl (pi_range1 rfl B.range_ (pa_cons pe_int pa_nil)) (pg_name (i := 2) sc_law.nd rfl (Or.inl rfl)) (pss_cons (ps_set (i := 3) sc_law.nd rfl (Or.inl rfl) (pe_cmpR op_eq (pe_fn G_law_draw (hr.mono (by decide)) rfl (pa_cons (pv 1) (pa_cons pe_int pa_nil))) pe_int (nomark _)))
      (pss_cons (ps_asg (pe_fn G_law_two (hr.mono (by decide)) rfl (pa_cons (pv 1) pa_nil)) (pg_tup rfl (pgs_cons (pg_name (i := 4) sc_law.nd rfl (Or.inl rfl)) (pgs_cons (pg_name (i := 5) sc_law.nd rfl (Or.inl rfl)) pgs_nil))))
      (pss_one (ps_for PassesOwn.never rfl (pi_list (pe_lst (pa_cons (pe_tup (pa_cons (pv 4) (pa_cons (pv 5) pa_nil))) (pa_cons (pe_tup (pa_cons (pv 5) (pa_cons (pv 4) pa_nil))) (pa_cons (pe_tup (pa_cons (pv 4) (pa_cons (pv 4) pa_nil))) (pa_cons (pe_tup (pa_cons (pv 4) (pa_cons (pv 5) pa_nil))) pa_nil)))))) (pg_tup rfl (pgs_cons (pg_name (i := 6) sc_law.nd rfl (Or.inl rfl)) (pgs_cons (pg_name (i := 7) sc_law.nd rfl (Or.inl rfl)) pgs_nil))) (pss_one (ps_if (pt_not (pt_val (pe_fn G_law_right (hr.mono (by decide)) rfl (pa_cons (pv 6) (pa_cons (pv 7) (pa_cons (pv 3) pa_nil)))))) (pss_one (ps_ret pe_bl)) pss_nil)))))))
      (pss_one (ps_ret pe_bl)))), ?_⟩
  refine ⟨_, rfl, a, ns, rfl, hS, h63, fun b g l H1 B1 S1 nb ng => ?_⟩
  refine ⟨4, rfl, by decide, by decide, for_range (n := 4) (fun i σ H' => (∃ y2 y3 y4 y5 y6 y7, σ = [some (.ref a), some (.ref b), y2, y3, y4, y5, y6, y7]) ∧ Bag H' b g l (1001 * (i : Int))) ?_ ?_ ?_⟩
  · exact ⟨⟨none, none, none, none, none, none, rfl⟩, B1.mono (by decide)⟩
  · rintro i σ H2 hi ⟨⟨y2, y3, y4, y5, y6, y7, rfl⟩, B2⟩
    refine ⟨_, rfl, b, g, l, _, 2, rfl, B2, by omega, by decide, by decide, fun c H3 c0 c1 B3 S3 => ?_⟩
    refine ⟨rfl, ?_⟩
    refine ⟨_, rfl, b, g, l, _, rfl, B3, by omega, fun r p p2 w1 w2 H4 er W1 W2 d1 d2 B4 S4 => ?_⟩
    refine ⟨r, _, rfl, SqT.of er, rfl, _, _, rfl, _, _, rfl, rfl, ?_⟩
    refine ⟨_, rfl, _, rfl, (by show 2 ≤ sizeLine; decide), fun u1 hu1 => ?_⟩
    have s1 := same_new hu1 (.tup [V.ref p, V.ref p2])
    refine ⟨_, rfl, _, rfl, (by show 2 ≤ sizeLine; decide), fun u2 hu2 => ?_⟩
    have s2 := same_new hu2 (.tup [V.ref p2, V.ref p])
    refine ⟨_, rfl, _, rfl, (by show 2 ≤ sizeLine; decide), fun u3 hu3 => ?_⟩
    have s3 := same_new hu3 (.tup [V.ref p, V.ref p])
    refine ⟨_, rfl, _, rfl, (by show 2 ≤ sizeLine; decide), fun u4 hu4 => ?_⟩
    have s4 := same_new hu4 (.tup [V.ref p, V.ref p2])
    refine ⟨(by show 4 ≤ sizeLine; decide), fun ls hls => ?_⟩
    have s5 := same_new hls (.lst [V.ref u1, V.ref u2, V.ref u3, V.ref u4])
    have f1 := s5 _ _ (s4 _ _ (s3 _ _ (s2 _ _ (show _ = some (HO.tup [V.ref p, V.ref p2]) from upd_same (H := H4) (a := u1)))))
    have f2 := s5 _ _ (s4 _ _ (s3 _ _ (show (upd (upd H4 u1 (.tup [V.ref p, V.ref p2])) u2 (.tup [V.ref p2, V.ref p])) u2 = some (HO.tup [V.ref p2, V.ref p]) from upd_same)))
    have f3 := s5 _ _ (s4 _ _ (show (upd (upd (upd H4 u1 (.tup [V.ref p, V.ref p2])) u2 (.tup [V.ref p2, V.ref p])) u3 (.tup [V.ref p, V.ref p])) u3 = some (HO.tup [V.ref p, V.ref p]) from upd_same))
    have f4 := s5 _ _ (show (upd (upd (upd (upd H4 u1 (.tup [V.ref p, V.ref p2])) u2 (.tup [V.ref p2, V.ref p])) u3 (.tup [V.ref p, V.ref p])) u4 (.tup [V.ref p, V.ref p2])) u4 = some (HO.tup [V.ref p, V.ref p2]) from upd_same)
    have fl := (show (upd (upd (upd (upd (upd H4 u1 (.tup [V.ref p, V.ref p2])) u2 (.tup [V.ref p2, V.ref p])) u3 (.tup [V.ref p, V.ref p])) u4 (.tup [V.ref p, V.ref p2])) ls (.lst [V.ref u1, V.ref u2, V.ref u3, V.ref u4])) ls = some (HO.lst [V.ref u1, V.ref u2, V.ref u3, V.ref u4]) from upd_same)
    have t5 := s1.trans (s2.trans (s3.trans (s4.trans s5)))
    generalize upd (upd (upd (upd (upd H4 u1 (.tup [V.ref p, V.ref p2])) u2 (.tup [V.ref p2, V.ref p])) u3 (.tup [V.ref p, V.ref p])) u4 (.tup [V.ref p, V.ref p2])) ls (.lst [V.ref u1, V.ref u2, V.ref u3, V.ref u4]) = H5 at *
    refine ⟨ls, rfl, ⟨_, SqL.of fl⟩, for_list (K := K) (a := ls) (xs := [V.ref u1, V.ref u2, V.ref u3, V.ref u4]) (fun j σ H' => (∃ y6 y7, σ = [some (.ref a), some (.ref b), some (.int (0 + (i : Int))), some (.bl (decide (V.int c = V.int 1))), some (.ref p), some (.ref p2), y6, y7]) ∧ Same H5 H') ⟨⟨_, _, rfl⟩, Same.refl _⟩ (fun j σ H' _ ⟨_, z⟩ => SqL.of (z _ _ fl)) ?_ ?_⟩
    · rintro j x σ H6 hx ⟨⟨y6, y7, rfl⟩, s6⟩
      have t6 := t5.trans s6
      obtain ⟨u, o1, o2, v1, v2, rfl, eu, O1, O2, e1, e2⟩ : ∃ (u o1 o2 : Addr) (v1 v2 : List WP), x = .ref u ∧ H6 u = some (.tup [.ref o1, .ref o2]) ∧ WishAt H6 o1 v1 ∧ WishAt H6 o2 v2 ∧ WDrawn v1 ∧ WDrawn v2 := by
        have A1 := W1.same t6
        have A2 := W2.same t6
        match j, hx with
        | 0, hx => exact ⟨u1, p, p2, w1, w2, (Option.some.inj hx).symm, s6 _ _ f1, A1, A2, d1, d2⟩
        | 1, hx => exact ⟨u2, p2, p, w2, w1, (Option.some.inj hx).symm, s6 _ _ f2, A2, A1, d2, d1⟩
        | 2, hx => exact ⟨u3, p, p, w1, w1, (Option.some.inj hx).symm, s6 _ _ f3, A1, A1, d1, d1⟩
        | 3, hx => exact ⟨u4, p, p2, w1, w2, (Option.some.inj hx).symm, s6 _ _ f4, A1, A2, d1, d2⟩
        | k + 4, hx => simp at hx
      refine ⟨u, _, rfl, SqT.of eu, rfl, _, _, rfl, _, _, rfl, rfl, ?_⟩
      exact ⟨_, rfl, _, rfl, _, rfl, o1, o2, _, v1, v2, rfl, O1, O2, e1, e2, fun H7 s7 => ⟨_, rfl, iteF ⟨⟨_, _, rfl⟩, s6.trans s7⟩⟩⟩
    · rintro σ H6 ⟨⟨y6, y7, rfl⟩, s6⟩
      exact ⟨⟨_, _, _, _, _, _, rfl⟩, (B4.same (t5.trans s6)).mono (by omega)⟩
  · rintro σ H2 ⟨_, B2⟩
    exact q H2

end
theorem all_mk {l : PySem.W.OpenLaw} {w : World} {K : PySem.W.Frag} {h : Heap} {mg : Str → Option Value} {fa f1 f2 f3 f4 f5 f6 f7 f8 f9 f10 f11 f12 f13 f14 f15 f16 f17 f18 f19 f20 f21 f22 f23 f24 f25 f26 f27 f28 f29 f30 f31 f32 f33 f34 f35 f36 f37 f38 f39 f40 f41 f42 f43 f44 f45 : Addr} (X : K.In h) (G : h.Ns mainGlobals mg) (hfa : mg "law" = some (.ref fa))
    {od1 od2 od3 od4 od5 od6 od7 od8 od9 od10 od11 od12 od13 od14 od15 od16 od17 od18 od19 od20 od21 od22 od23 od24 od25 od26 od27 od28 od29 od30 od31 od32 od33 od34 od35 od36 od37 od38 od39 od40 od41 od42 od43 od44 od45 an1 an2 an3 an4 an5 an6 an7 an8 an9 an10 an11 an12 an13 an14 an15 an16 an17 an18 an19 an20 an21 an22 an23 an24 an25 an26 an27 an28 an29 an30 an31 an32 an33 an34 an35 an36 an37 an38 an39 an40 an41 an42 an43 an44 an45 : Option Addr} {sl1 sl2 sl3 sl4 sl5 sl6 sl7 sl8 sl9 sl10 sl11 sl12 sl13 sl14 sl15 sl16 sl17 sl18 sl19 sl20 sl21 sl22 sl23 sl24 sl25 sl26 sl27 sl28 sl29 sl30 sl31 sl32 sl33 sl34 sl35 sl36 sl37 sl38 sl39 sl40 sl41 sl42 sl43 sl44 sl45 : Array (Option Value)} {oc1 oc2 oc3 oc4 oc5 oc6 oc7 oc8 oc9 oc10 oc11 oc12 oc13 oc14 oc15 oc16 oc17 oc18 oc19 oc20 oc21 oc22 oc23 oc24 oc25 oc26 oc27 oc28 oc29 oc30 oc31 oc32 oc33 oc34 oc35 oc36 oc37 oc38 oc39 oc40 oc41 oc42 oc43 oc44 oc45 kV1 kV2 kV3 kV4 kV5 kV6 kV7 kV8 kV9 kV10 kV11 kV12 kV13 kV14 kV15 kV16 kV17 kV18 kV19 kV20 kV21 kV22 kV23 kV24 kV25 kV26 kV27 kV28 kV29 kV30 kV31 kV32 kV33 kV34 kV35 kV36 kV37 kV38 kV39 kV40 kV41 kV42 kV43 kV44 kV45 dc1 dc2 dc3 dc4 dc5 dc6 dc7 dc8 dc9 dc10 dc11 dc12 dc13 dc14 dc15 dc16 dc17 dc18 dc19 dc20 dc21 dc22 dc23 dc24 dc25 dc26 dc27 dc28 dc29 dc30 dc31 dc32 dc33 dc34 dc35 dc36 dc37 dc38 dc39 dc40 dc41 dc42 dc43 dc44 dc45 pm1 pm2 pm3 pm4 pm5 pm6 pm7 pm8 pm9 pm10 pm11 pm12 pm13 pm14 pm15 pm16 pm17 pm18 pm19 pm20 pm21 pm22 pm23 pm24 pm25 pm26 pm27 pm28 pm29 pm30 pm31 pm32 pm33 pm34 pm35 pm36 pm37 pm38 pm39 pm40 pm41 pm42 pm43 pm44 pm45 cd1 cd2 cd3 cd4 cd5 cd6 cd7 cd8 cd9 cd10 cd11 cd12 cd13 cd14 cd15 cd16 cd17 cd18 cd19 cd20 cd21 cd22 cd23 cd24 cd25 cd26 cd27 cd28 cd29 cd30 cd31 cd32 cd33 cd34 cd35 cd36 cd37 cd38 cd39 cd40 cd41 cd42 cd43 cd44 cd45 ct1 ct2 ct3 ct4 ct5 ct6 ct7 ct8 ct9 ct10 ct11 ct12 ct13 ct14 ct15 ct16 ct17 ct18 ct19 ct20 ct21 ct22 ct23 ct24 ct25 ct26 ct27 ct28 ct29 ct30 ct31 ct32 ct33 ct34 ct35 ct36 ct37 ct38 ct39 ct40 ct41 ct42 ct43 ct44 ct45 : Value}
    (a1 : PySem.W.nsIn K mainGlobals "is_whole" = some (some (.ref f1))) (l1 : K.lookup f1 = some ⟨oc1, od1, .func (PySem.W.fnOf "is_whole" "is_whole" (defArgs s_is_whole) (defBody s_is_whole) (defScope s_is_whole) .none kV1 dc1 pm1 an1 cd1 ct1), sl1⟩) (c1 : PySem.W.codeIn K cd1 "is_whole" = true) (k1 : PySem.W.keepIn K (.ref f1) = true)
    (a2 : PySem.W.nsIn K mainGlobals "is_end" = some (some (.ref f2))) (l2 : K.lookup f2 = some ⟨oc2, od2, .func (PySem.W.fnOf "is_end" "is_end" (defArgs s_is_end) (defBody s_is_end) (defScope s_is_end) .none kV2 dc2 pm2 an2 cd2 ct2), sl2⟩) (c2 : PySem.W.codeIn K cd2 "is_end" = true) (k2 : PySem.W.keepIn K (.ref f2) = true)
    (a3 : PySem.W.nsIn K mainGlobals "is_span" = some (some (.ref f3))) (l3 : K.lookup f3 = some ⟨oc3, od3, .func (PySem.W.fnOf "is_span" "is_span" (defArgs s_is_span) (defBody s_is_span) (defScope s_is_span) .none kV3 dc3 pm3 an3 cd3 ct3), sl3⟩) (c3 : PySem.W.codeIn K cd3 "is_span" = true) (k3 : PySem.W.keepIn K (.ref f3) = true)
    (a4 : PySem.W.nsIn K mainGlobals "span_holds" = some (some (.ref f4))) (l4 : K.lookup f4 = some ⟨oc4, od4, .func (PySem.W.fnOf "span_holds" "span_holds" (defArgs s_span_holds) (defBody s_span_holds) (defScope s_span_holds) .none kV4 dc4 pm4 an4 cd4 ct4), sl4⟩) (c4 : PySem.W.codeIn K cd4 "span_holds" = true) (k4 : PySem.W.keepIn K (.ref f4) = true)
    (a5 : PySem.W.nsIn K mainGlobals "span_reaches" = some (some (.ref f5))) (l5 : K.lookup f5 = some ⟨oc5, od5, .func (PySem.W.fnOf "span_reaches" "span_reaches" (defArgs s_span_reaches) (defBody s_span_reaches) (defScope s_span_reaches) .none kV5 dc5 pm5 an5 cd5 ct5), sl5⟩) (c5 : PySem.W.codeIn K cd5 "span_reaches" = true) (k5 : PySem.W.keepIn K (.ref f5) = true)
    (a6 : PySem.W.nsIn K mainGlobals "span_shared" = some (some (.ref f6))) (l6 : K.lookup f6 = some ⟨oc6, od6, .func (PySem.W.fnOf "span_shared" "span_shared" (defArgs s_span_shared) (defBody s_span_shared) (defScope s_span_shared) .none kV6 dc6 pm6 an6 cd6 ct6), sl6⟩) (c6 : PySem.W.codeIn K cd6 "span_shared" = true) (k6 : PySem.W.keepIn K (.ref f6) = true)
    (a7 : PySem.W.nsIn K mainGlobals "number_of" = some (some (.ref f7))) (l7 : K.lookup f7 = some ⟨oc7, od7, .func (PySem.W.fnOf "number_of" "number_of" (defArgs s_number_of) (defBody s_number_of) (defScope s_number_of) .none kV7 dc7 pm7 an7 cd7 ct7), sl7⟩) (c7 : PySem.W.codeIn K cd7 "number_of" = true) (k7 : PySem.W.keepIn K (.ref f7) = true)
    (a8 : PySem.W.nsIn K mainGlobals "number_apart" = some (some (.ref f8))) (l8 : K.lookup f8 = some ⟨oc8, od8, .func (PySem.W.fnOf "number_apart" "number_apart" (defArgs s_number_apart) (defBody s_number_apart) (defScope s_number_apart) .none kV8 dc8 pm8 an8 cd8 ct8), sl8⟩) (c8 : PySem.W.codeIn K cd8 "number_apart" = true) (k8 : PySem.W.keepIn K (.ref f8) = true)
    (a9 : PySem.W.nsIn K mainGlobals "is_field" = some (some (.ref f9))) (l9 : K.lookup f9 = some ⟨oc9, od9, .func (PySem.W.fnOf "is_field" "is_field" (defArgs s_is_field) (defBody s_is_field) (defScope s_is_field) .none kV9 dc9 pm9 an9 cd9 ct9), sl9⟩) (c9 : PySem.W.codeIn K cd9 "is_field" = true) (k9 : PySem.W.keepIn K (.ref f9) = true)
    (a10 : PySem.W.nsIn K mainGlobals "is_wish_part" = some (some (.ref f10))) (l10 : K.lookup f10 = some ⟨oc10, od10, .func (PySem.W.fnOf "is_wish_part" "is_wish_part" (defArgs s_is_wish_part) (defBody s_is_wish_part) (defScope s_is_wish_part) .none kV10 dc10 pm10 an10 cd10 ct10), sl10⟩) (c10 : PySem.W.codeIn K cd10 "is_wish_part" = true) (k10 : PySem.W.keepIn K (.ref f10) = true)
    (a11 : PySem.W.nsIn K mainGlobals "is_piece_part" = some (some (.ref f11))) (l11 : K.lookup f11 = some ⟨oc11, od11, .func (PySem.W.fnOf "is_piece_part" "is_piece_part" (defArgs s_is_piece_part) (defBody s_is_piece_part) (defScope s_is_piece_part) .none kV11 dc11 pm11 an11 cd11 ct11), sl11⟩) (c11 : PySem.W.codeIn K cd11 "is_piece_part" = true) (k11 : PySem.W.keepIn K (.ref f11) = true)
    (a12 : PySem.W.nsIn K mainGlobals "fields_ascend" = some (some (.ref f12))) (l12 : K.lookup f12 = some ⟨oc12, od12, .func (PySem.W.fnOf "fields_ascend" "fields_ascend" (defArgs s_fields_ascend) (defBody s_fields_ascend) (defScope s_fields_ascend) .none kV12 dc12 pm12 an12 cd12 ct12), sl12⟩) (c12 : PySem.W.codeIn K cd12 "fields_ascend" = true) (k12 : PySem.W.keepIn K (.ref f12) = true)
    (a13 : PySem.W.nsIn K mainGlobals "is_wish" = some (some (.ref f13))) (l13 : K.lookup f13 = some ⟨oc13, od13, .func (PySem.W.fnOf "is_wish" "is_wish" (defArgs s_is_wish) (defBody s_is_wish) (defScope s_is_wish) .none kV13 dc13 pm13 an13 cd13 ct13), sl13⟩) (c13 : PySem.W.codeIn K cd13 "is_wish" = true) (k13 : PySem.W.keepIn K (.ref f13) = true)
    (a14 : PySem.W.nsIn K mainGlobals "is_piece" = some (some (.ref f14))) (l14 : K.lookup f14 = some ⟨oc14, od14, .func (PySem.W.fnOf "is_piece" "is_piece" (defArgs s_is_piece) (defBody s_is_piece) (defScope s_is_piece) .none kV14 dc14 pm14 an14 cd14 ct14), sl14⟩) (c14 : PySem.W.codeIn K cd14 "is_piece" = true) (k14 : PySem.W.keepIn K (.ref f14) = true)
    (a15 : PySem.W.nsIn K mainGlobals "check_wish" = some (some (.ref f15))) (l15 : K.lookup f15 = some ⟨oc15, od15, .func (PySem.W.fnOf "check_wish" "check_wish" (defArgs s_check_wish) (defBody s_check_wish) (defScope s_check_wish) .none kV15 dc15 pm15 an15 cd15 ct15), sl15⟩) (c15 : PySem.W.codeIn K cd15 "check_wish" = true) (k15 : PySem.W.keepIn K (.ref f15) = true)
    (a16 : PySem.W.nsIn K mainGlobals "check_piece" = some (some (.ref f16))) (l16 : K.lookup f16 = some ⟨oc16, od16, .func (PySem.W.fnOf "check_piece" "check_piece" (defArgs s_check_piece) (defBody s_check_piece) (defScope s_check_piece) .none kV16 dc16 pm16 an16 cd16 ct16), sl16⟩) (c16 : PySem.W.codeIn K cd16 "check_piece" = true) (k16 : PySem.W.keepIn K (.ref f16) = true)
    (a17 : PySem.W.nsIn K mainGlobals "wish_takes" = some (some (.ref f17))) (l17 : K.lookup f17 = some ⟨oc17, od17, .func (PySem.W.fnOf "wish_takes" "wish_takes" (defArgs s_wish_takes) (defBody s_wish_takes) (defScope s_wish_takes) .none kV17 dc17 pm17 an17 cd17 ct17), sl17⟩) (c17 : PySem.W.codeIn K cd17 "wish_takes" = true) (k17 : PySem.W.keepIn K (.ref f17) = true)
    (a18 : PySem.W.nsIn K mainGlobals "wants" = some (some (.ref f18))) (l18 : K.lookup f18 = some ⟨oc18, od18, .func (PySem.W.fnOf "wants" "wants" (defArgs s_wants) (defBody s_wants) (defScope s_wants) .none kV18 dc18 pm18 an18 cd18 ct18), sl18⟩) (c18 : PySem.W.codeIn K cd18 "wants" = true) (k18 : PySem.W.keepIn K (.ref f18) = true)
    (a19 : PySem.W.nsIn K mainGlobals "spans_by_field" = some (some (.ref f19))) (l19 : K.lookup f19 = some ⟨oc19, od19, .func (PySem.W.fnOf "spans_by_field" "spans_by_field" (defArgs s_spans_by_field) (defBody s_spans_by_field) (defScope s_spans_by_field) .none kV19 dc19 pm19 an19 cd19 ct19), sl19⟩) (c19 : PySem.W.codeIn K cd19 "spans_by_field" = true) (k19 : PySem.W.keepIn K (.ref f19) = true)
    (a20 : PySem.W.nsIn K mainGlobals "reaches_spans" = some (some (.ref f20))) (l20 : K.lookup f20 = some ⟨oc20, od20, .func (PySem.W.fnOf "reaches_spans" "reaches_spans" (defArgs s_reaches_spans) (defBody s_reaches_spans) (defScope s_reaches_spans) .none kV20 dc20 pm20 an20 cd20 ct20), sl20⟩) (c20 : PySem.W.codeIn K cd20 "reaches_spans" = true) (k20 : PySem.W.keepIn K (.ref f20) = true)
    (a21 : PySem.W.nsIn K mainGlobals "wish_reaches" = some (some (.ref f21))) (l21 : K.lookup f21 = some ⟨oc21, od21, .func (PySem.W.fnOf "wish_reaches" "wish_reaches" (defArgs s_wish_reaches) (defBody s_wish_reaches) (defScope s_wish_reaches) .none kV21 dc21 pm21 an21 cd21 ct21), sl21⟩) (c21 : PySem.W.codeIn K cd21 "wish_reaches" = true) (k21 : PySem.W.keepIn K (.ref f21) = true)
    (a22 : PySem.W.nsIn K mainGlobals "covers" = some (some (.ref f22))) (l22 : K.lookup f22 = some ⟨oc22, od22, .func (PySem.W.fnOf "covers" "covers" (defArgs s_covers) (defBody s_covers) (defScope s_covers) .none kV22 dc22 pm22 an22 cd22 ct22), sl22⟩) (c22 : PySem.W.codeIn K cd22 "covers" = true) (k22 : PySem.W.keepIn K (.ref f22) = true)
    (a23 : PySem.W.nsIn K mainGlobals "parting_piece" = some (some (.ref f23))) (l23 : K.lookup f23 = some ⟨oc23, od23, .func (PySem.W.fnOf "parting_piece" "parting_piece" (defArgs s_parting_piece) (defBody s_parting_piece) (defScope s_parting_piece) .none kV23 dc23 pm23 an23 cd23 ct23), sl23⟩) (c23 : PySem.W.codeIn K cd23 "parting_piece" = true) (k23 : PySem.W.keepIn K (.ref f23) = true)
    (a24 : PySem.W.nsIn K mainGlobals "_law_bag" = some (some (.ref f24))) (l24 : K.lookup f24 = some ⟨oc24, od24, .func (PySem.W.fnOf "_law_bag" "_law_bag" (defArgs s_law_bag) (defBody s_law_bag) (defScope s_law_bag) .none kV24 dc24 pm24 an24 cd24 ct24), sl24⟩) (c24 : PySem.W.codeIn K cd24 "_law_bag" = true) (k24 : PySem.W.keepIn K (.ref f24) = true)
    (a25 : PySem.W.nsIn K mainGlobals "_law_draw" = some (some (.ref f25))) (l25 : K.lookup f25 = some ⟨oc25, od25, .func (PySem.W.fnOf "_law_draw" "_law_draw" (defArgs s_law_draw) (defBody s_law_draw) (defScope s_law_draw) .none kV25 dc25 pm25 an25 cd25 ct25), sl25⟩) (c25 : PySem.W.codeIn K cd25 "_law_draw" = true) (k25 : PySem.W.keepIn K (.ref f25) = true)
    (a26 : PySem.W.nsIn K mainGlobals "_law_number" = some (some (.ref f26))) (l26 : K.lookup f26 = some ⟨oc26, od26, .func (PySem.W.fnOf "_law_number" "_law_number" (defArgs s_law_number) (defBody s_law_number) (defScope s_law_number) .none kV26 dc26 pm26 an26 cd26 ct26), sl26⟩) (c26 : PySem.W.codeIn K cd26 "_law_number" = true) (k26 : PySem.W.keepIn K (.ref f26) = true)
    (a27 : PySem.W.nsIn K mainGlobals "_law_held" = some (some (.ref f27))) (l27 : K.lookup f27 = some ⟨oc27, od27, .func (PySem.W.fnOf "_law_held" "_law_held" (defArgs s_law_held) (defBody s_law_held) (defScope s_law_held) .none kV27 dc27 pm27 an27 cd27 ct27), sl27⟩) (c27 : PySem.W.codeIn K cd27 "_law_held" = true) (k27 : PySem.W.keepIn K (.ref f27) = true)
    (a28 : PySem.W.nsIn K mainGlobals "_law_span" = some (some (.ref f28))) (l28 : K.lookup f28 = some ⟨oc28, od28, .func (PySem.W.fnOf "_law_span" "_law_span" (defArgs s_law_span) (defBody s_law_span) (defScope s_law_span) .none kV28 dc28 pm28 an28 cd28 ct28), sl28⟩) (c28 : PySem.W.codeIn K cd28 "_law_span" = true) (k28 : PySem.W.keepIn K (.ref f28) = true)
    (a29 : PySem.W.nsIn K mainGlobals "_law_whole" = some (some (.ref f29))) (l29 : K.lookup f29 = some ⟨oc29, od29, .func (PySem.W.fnOf "_law_whole" "_law_whole" (defArgs s_law_whole) (defBody s_law_whole) (defScope s_law_whole) .none kV29 dc29 pm29 an29 cd29 ct29), sl29⟩) (c29 : PySem.W.codeIn K cd29 "_law_whole" = true) (k29 : PySem.W.keepIn K (.ref f29) = true)
    (a30 : PySem.W.nsIn K mainGlobals "_law_in" = some (some (.ref f30))) (l30 : K.lookup f30 = some ⟨oc30, od30, .func (PySem.W.fnOf "_law_in" "_law_in" (defArgs s_law_in) (defBody s_law_in) (defScope s_law_in) .none kV30 dc30 pm30 an30 cd30 ct30), sl30⟩) (c30 : PySem.W.codeIn K cd30 "_law_in" = true) (k30 : PySem.W.keepIn K (.ref f30) = true)
    (a31 : PySem.W.nsIn K mainGlobals "_law_field" = some (some (.ref f31))) (l31 : K.lookup f31 = some ⟨oc31, od31, .func (PySem.W.fnOf "_law_field" "_law_field" (defArgs s_law_field) (defBody s_law_field) (defScope s_law_field) .none kV31 dc31 pm31 an31 cd31 ct31), sl31⟩) (c31 : PySem.W.codeIn K cd31 "_law_field" = true) (k31 : PySem.W.keepIn K (.ref f31) = true)
    (a32 : PySem.W.nsIn K mainGlobals "_law_fields" = some (some (.ref f32))) (l32 : K.lookup f32 = some ⟨oc32, od32, .func (PySem.W.fnOf "_law_fields" "_law_fields" (defArgs s_law_fields) (defBody s_law_fields) (defScope s_law_fields) .none kV32 dc32 pm32 an32 cd32 ct32), sl32⟩) (c32 : PySem.W.codeIn K cd32 "_law_fields" = true) (k32 : PySem.W.keepIn K (.ref f32) = true)
    (a33 : PySem.W.nsIn K mainGlobals "_law_moved" = some (some (.ref f33))) (l33 : K.lookup f33 = some ⟨oc33, od33, .func (PySem.W.fnOf "_law_moved" "_law_moved" (defArgs s_law_moved) (defBody s_law_moved) (defScope s_law_moved) .none kV33 dc33 pm33 an33 cd33 ct33), sl33⟩) (c33 : PySem.W.codeIn K cd33 "_law_moved" = true) (k33 : PySem.W.keepIn K (.ref f33) = true)
    (a34 : PySem.W.nsIn K mainGlobals "_law_wish" = some (some (.ref f34))) (l34 : K.lookup f34 = some ⟨oc34, od34, .func (PySem.W.fnOf "_law_wish" "_law_wish" (defArgs s_law_wish) (defBody s_law_wish) (defScope s_law_wish) .none kV34 dc34 pm34 an34 cd34 ct34), sl34⟩) (c34 : PySem.W.codeIn K cd34 "_law_wish" = true) (k34 : PySem.W.keepIn K (.ref f34) = true)
    (a35 : PySem.W.nsIn K mainGlobals "_law_beside" = some (some (.ref f35))) (l35 : K.lookup f35 = some ⟨oc35, od35, .func (PySem.W.fnOf "_law_beside" "_law_beside" (defArgs s_law_beside) (defBody s_law_beside) (defScope s_law_beside) .none kV35 dc35 pm35 an35 cd35 ct35), sl35⟩) (c35 : PySem.W.codeIn K cd35 "_law_beside" = true) (k35 : PySem.W.keepIn K (.ref f35) = true)
    (a36 : PySem.W.nsIn K mainGlobals "_law_two" = some (some (.ref f36))) (l36 : K.lookup f36 = some ⟨oc36, od36, .func (PySem.W.fnOf "_law_two" "_law_two" (defArgs s_law_two) (defBody s_law_two) (defScope s_law_two) .none kV36 dc36 pm36 an36 cd36 ct36), sl36⟩) (c36 : PySem.W.codeIn K cd36 "_law_two" = true) (k36 : PySem.W.keepIn K (.ref f36) = true)
    (a37 : PySem.W.nsIn K mainGlobals "_law_span_of" = some (some (.ref f37))) (l37 : K.lookup f37 = some ⟨oc37, od37, .func (PySem.W.fnOf "_law_span_of" "_law_span_of" (defArgs s_law_span_of) (defBody s_law_span_of) (defScope s_law_span_of) .none kV37 dc37 pm37 an37 cd37 ct37), sl37⟩) (c37 : PySem.W.codeIn K cd37 "_law_span_of" = true) (k37 : PySem.W.keepIn K (.ref f37) = true)
    (a38 : PySem.W.nsIn K mainGlobals "_law_points" = some (some (.ref f38))) (l38 : K.lookup f38 = some ⟨oc38, od38, .func (PySem.W.fnOf "_law_points" "_law_points" (defArgs s_law_points) (defBody s_law_points) (defScope s_law_points) .none kV38 dc38 pm38 an38 cd38 ct38), sl38⟩) (c38 : PySem.W.codeIn K cd38 "_law_points" = true) (k38 : PySem.W.keepIn K (.ref f38) = true)
    (a39 : PySem.W.nsIn K mainGlobals "_law_wants" = some (some (.ref f39))) (l39 : K.lookup f39 = some ⟨oc39, od39, .func (PySem.W.fnOf "_law_wants" "_law_wants" (defArgs s_law_wants) (defBody s_law_wants) (defScope s_law_wants) .none kV39 dc39 pm39 an39 cd39 ct39), sl39⟩) (c39 : PySem.W.codeIn K cd39 "_law_wants" = true) (k39 : PySem.W.keepIn K (.ref f39) = true)
    (a40 : PySem.W.nsIn K mainGlobals "_law_is_field" = some (some (.ref f40))) (l40 : K.lookup f40 = some ⟨oc40, od40, .func (PySem.W.fnOf "_law_is_field" "_law_is_field" (defArgs s_law_is_field) (defBody s_law_is_field) (defScope s_law_is_field) .none kV40 dc40 pm40 an40 cd40 ct40), sl40⟩) (c40 : PySem.W.codeIn K cd40 "_law_is_field" = true) (k40 : PySem.W.keepIn K (.ref f40) = true)
    (a41 : PySem.W.nsIn K mainGlobals "_law_is_span" = some (some (.ref f41))) (l41 : K.lookup f41 = some ⟨oc41, od41, .func (PySem.W.fnOf "_law_is_span" "_law_is_span" (defArgs s_law_is_span) (defBody s_law_is_span) (defScope s_law_is_span) .none kV41 dc41 pm41 an41 cd41 ct41), sl41⟩) (c41 : PySem.W.codeIn K cd41 "_law_is_span" = true) (k41 : PySem.W.keepIn K (.ref f41) = true)
    (a42 : PySem.W.nsIn K mainGlobals "_law_is_made" = some (some (.ref f42))) (l42 : K.lookup f42 = some ⟨oc42, od42, .func (PySem.W.fnOf "_law_is_made" "_law_is_made" (defArgs s_law_is_made) (defBody s_law_is_made) (defScope s_law_is_made) .none kV42 dc42 pm42 an42 cd42 ct42), sl42⟩) (c42 : PySem.W.codeIn K cd42 "_law_is_made" = true) (k42 : PySem.W.keepIn K (.ref f42) = true)
    (a43 : PySem.W.nsIn K mainGlobals "_law_pieces" = some (some (.ref f43))) (l43 : K.lookup f43 = some ⟨oc43, od43, .func (PySem.W.fnOf "_law_pieces" "_law_pieces" (defArgs s_law_pieces) (defBody s_law_pieces) (defScope s_law_pieces) .none kV43 dc43 pm43 an43 cd43 ct43), sl43⟩) (c43 : PySem.W.codeIn K cd43 "_law_pieces" = true) (k43 : PySem.W.keepIn K (.ref f43) = true)
    (a44 : PySem.W.nsIn K mainGlobals "_law_right" = some (some (.ref f44))) (l44 : K.lookup f44 = some ⟨oc44, od44, .func (PySem.W.fnOf "_law_right" "_law_right" (defArgs s_law_right) (defBody s_law_right) (defScope s_law_right) .none kV44 dc44 pm44 an44 cd44 ct44), sl44⟩) (c44 : PySem.W.codeIn K cd44 "_law_right" = true) (k44 : PySem.W.keepIn K (.ref f44) = true)
    (a45 : PySem.W.nsIn K mainGlobals "law" = some (some (.ref f45))) (l45 : K.lookup f45 = some ⟨oc45, od45, .func (PySem.W.fnOf "law" "law" (defArgs s_law) (defBody s_law) (defScope s_law) .none kV45 dc45 pm45 an45 cd45 ct45), sl45⟩) (c45 : PySem.W.codeIn K cd45 "law" = true) (k45 : PySem.W.keepIn K (.ref f45) = true)
    {t_MOST_LETTERS : Tok} (e_MOST_LETTERS : PySem.W.nsIn K mainGlobals "MOST_LETTERS" = some (some (.int 8 t_MOST_LETTERS)))
    (z_len : PySem.W.nsIn K mainGlobals "len" = some none)
    (z_range : PySem.W.nsIn K mainGlobals "range" = some none)
    (z_isinstance : PySem.W.nsIn K mainGlobals "isinstance" = some none)
    (z_int : PySem.W.nsIn K mainGlobals "int" = some none)
    (z_bool : PySem.W.nsIn K mainGlobals "bool" = some none)
    (z_tuple : PySem.W.nsIn K mainGlobals "tuple" = some none)
    (z_list : PySem.W.nsIn K mainGlobals "list" = some none)
    (z_max : PySem.W.nsIn K mainGlobals "max" = some none)
    (z_min : PySem.W.nsIn K mainGlobals "min" = some none)
    (z_all : PySem.W.nsIn K mainGlobals "all" = some none)
    (z_zip : PySem.W.nsIn K mainGlobals "zip" = some none)
    (z_str : PySem.W.nsIn K mainGlobals "str" = some none)
    (z_dict : PySem.W.nsIn K mainGlobals "dict" = some none)
    (z_sorted : PySem.W.nsIn K mainGlobals "sorted" = some none)
    (z_set : PySem.W.nsIn K mainGlobals "set" = some none)
    (z_any : PySem.W.nsIn K mainGlobals "any" = some none)
    (z_sum : PySem.W.nsIn K mainGlobals "sum" = some none)
    (z_enumerate : PySem.W.nsIn K mainGlobals "enumerate" = some none)
    (z_repr : PySem.W.nsIn K mainGlobals "repr" = some none)
    (z_ord : PySem.W.nsIn K mainGlobals "ord" = some none)
    (z_chr : PySem.W.nsIn K mainGlobals "chr" = some none)
    (z_abs : PySem.W.nsIn K mainGlobals "abs" = some none)
    (z_reversed : PySem.W.nsIn K mainGlobals "reversed" = some none)
    : ∃ fd : FuncData, (∀ (s : Shared) (v : Value), BindsTo s fd ⟨[v], []⟩ [("script", v)]) ∧ ∀ base : Heap, K.In base → base.Ns mainGlobals mg → FnOk l.prog w K mg base CX0 9 fa fd ["script"] (spLaw K) := by
  have e := hfa.symm.trans (PySem.W.mg_of X G a45)
  cases e
  have B : Bl mg := ⟨PySem.W.mg_none_of X G z_len, PySem.W.mg_none_of X G z_range, PySem.W.mg_none_of X G z_isinstance, PySem.W.mg_none_of X G z_int, PySem.W.mg_none_of X G z_bool, PySem.W.mg_none_of X G z_tuple, PySem.W.mg_none_of X G z_list, PySem.W.mg_none_of X G z_max, PySem.W.mg_none_of X G z_min, PySem.W.mg_none_of X G z_all, PySem.W.mg_none_of X G z_zip, PySem.W.mg_none_of X G z_str, PySem.W.mg_none_of X G z_dict, PySem.W.mg_none_of X G z_sorted, PySem.W.mg_none_of X G z_set, PySem.W.mg_none_of X G z_any, PySem.W.mg_none_of X G z_sum, PySem.W.mg_none_of X G z_enumerate, PySem.W.mg_none_of X G z_repr, PySem.W.mg_none_of X G z_ord, PySem.W.mg_none_of X G z_chr, PySem.W.mg_none_of X G z_abs, PySem.W.mg_none_of X G z_reversed⟩
  refine ⟨PySem.W.fnOf "law" "law" (defArgs s_law) (defBody s_law) (defScope s_law) .none kV45 dc45 pm45 an45 cd45 ct45, fun s v => .of_eq rfl, fun base _ _ => ?_⟩
  have F1 := fun_mk (st := s_is_whole) l1 c1 k1
  have b1 := F1.binds (ps := ["thing"]) fun _ _ _ _ _ _ us hl => match us, hl with | [_], _ => rfl
  have G_is_whole : FnH l.prog w K mg base 1 "is_whole" ["thing"] (spWhole K) := ⟨_, _, ok_is_whole F1 B (PySem.W.mg_of X G e_MOST_LETTERS) , b1, k1, PySem.W.mg_of X G a1⟩
  have F2 := fun_mk (st := s_is_end) l2 c2 k2
  have b2 := F2.binds (ps := ["thing"]) fun _ _ _ _ _ _ us hl => match us, hl with | [_], _ => rfl
  have G_is_end : FnH l.prog w K mg base 2 "is_end" ["thing"] (spEnd K) := ⟨_, _, ok_is_end F2 B (PySem.W.mg_of X G e_MOST_LETTERS) G_is_whole, b2, k2, PySem.W.mg_of X G a2⟩
  have F3 := fun_mk (st := s_is_span) l3 c3 k3
  have b3 := F3.binds (ps := ["thing"]) fun _ _ _ _ _ _ us hl => match us, hl with | [_], _ => rfl
  have G_is_span : FnH l.prog w K mg base 3 "is_span" ["thing"] (spIsSpan K) := ⟨_, _, ok_is_span F3 B (PySem.W.mg_of X G e_MOST_LETTERS) G_is_end, b3, k3, PySem.W.mg_of X G a3⟩
  have F4 := fun_mk (st := s_span_holds) l4 c4 k4
  have b4 := F4.binds (ps := ["span", "number"]) fun _ _ _ _ _ _ us hl => match us, hl with | [_, _], _ => rfl
  have G_span_holds : FnH l.prog w K mg base 1 "span_holds" ["span", "number"] (spIn) := ⟨_, _, ok_span_holds F4 B (PySem.W.mg_of X G e_MOST_LETTERS) , b4, k4, PySem.W.mg_of X G a4⟩
  have F5 := fun_mk (st := s_span_reaches) l5 c5 k5
  have b5 := F5.binds (ps := ["one", "other"]) fun _ _ _ _ _ _ us hl => match us, hl with | [_, _], _ => rfl
  have G_span_reaches : FnH l.prog w K mg base 1 "span_reaches" ["one", "other"] (spReach) := ⟨_, _, ok_span_reaches F5 B (PySem.W.mg_of X G e_MOST_LETTERS) , b5, k5, PySem.W.mg_of X G a5⟩
  have F6 := fun_mk (st := s_span_shared) l6 c6 k6
  have b6 := F6.binds (ps := ["one", "other"]) fun _ _ _ _ _ _ us hl => match us, hl with | [_, _], _ => rfl
  have G_span_shared : FnH l.prog w K mg base 1 "span_shared" ["one", "other"] (spShared) := ⟨_, _, ok_span_shared F6 B (PySem.W.mg_of X G e_MOST_LETTERS) , b6, k6, PySem.W.mg_of X G a6⟩
  have F7 := fun_mk (st := s_number_of) l7 c7 k7
  have b7 := F7.binds (ps := ["span"]) fun _ _ _ _ _ _ us hl => match us, hl with | [_], _ => rfl
  have G_number_of : FnH l.prog w K mg base 1 "number_of" ["span"] (spNumOf) := ⟨_, _, ok_number_of F7 B (PySem.W.mg_of X G e_MOST_LETTERS) , b7, k7, PySem.W.mg_of X G a7⟩
  have F8 := fun_mk (st := s_number_apart) l8 c8 k8
  have b8 := F8.binds (ps := ["one", "other"]) fun _ _ _ _ _ _ us hl => match us, hl with | [_, _], _ => rfl
  have G_number_apart : FnH l.prog w K mg base 2 "number_apart" ["one", "other"] (spApart) := ⟨_, _, ok_number_apart F8 B (PySem.W.mg_of X G e_MOST_LETTERS) G_span_shared G_number_of, b8, k8, PySem.W.mg_of X G a8⟩
  have F9 := fun_mk (st := s_is_field) l9 c9 k9
  have b9 := F9.binds (ps := ["thing"]) fun _ _ _ _ _ _ us hl => match us, hl with | [_], _ => rfl
  have G_is_field : FnH l.prog w K mg base 1 "is_field" ["thing"] (spField) := ⟨_, _, ok_is_field F9 B (PySem.W.mg_of X G e_MOST_LETTERS) , b9, k9, PySem.W.mg_of X G a9⟩
  have F10 := fun_mk (st := s_is_wish_part) l10 c10 k10
  have b10 := F10.binds (ps := ["thing"]) fun _ _ _ _ _ _ us hl => match us, hl with | [_], _ => rfl
  have G_is_wish_part : FnH l.prog w K mg base 4 "is_wish_part" ["thing"] (spWishPart) := ⟨_, _, ok_is_wish_part F10 B (PySem.W.mg_of X G e_MOST_LETTERS) G_is_field G_is_span, b10, k10, PySem.W.mg_of X G a10⟩
  have F11 := fun_mk (st := s_is_piece_part) l11 c11 k11
  have b11 := F11.binds (ps := ["thing"]) fun _ _ _ _ _ _ us hl => match us, hl with | [_], _ => rfl
  have G_is_piece_part : FnH l.prog w K mg base 2 "is_piece_part" ["thing"] (spPiecePart) := ⟨_, _, ok_is_piece_part F11 B (PySem.W.mg_of X G e_MOST_LETTERS) G_is_field G_is_whole, b11, k11, PySem.W.mg_of X G a11⟩
  have F12 := fun_mk (st := s_fields_ascend) l12 c12 k12
  have b12 := F12.binds (ps := ["parts"]) fun _ _ _ _ _ _ us hl => match us, hl with | [_], _ => rfl
  have G_fields_ascend : FnH l.prog w K mg base 1 "fields_ascend" ["parts"] (spAscend) := ⟨_, _, ok_fields_ascend F12 B (PySem.W.mg_of X G e_MOST_LETTERS) , b12, k12, PySem.W.mg_of X G a12⟩
  have F13 := fun_mk (st := s_is_wish) l13 c13 k13
  have b13 := F13.binds (ps := ["thing"]) fun _ _ _ _ _ _ us hl => match us, hl with | [_], _ => rfl
  have G_is_wish : FnH l.prog w K mg base 5 "is_wish" ["thing"] (spIsWish) := ⟨_, _, ok_is_wish F13 B (PySem.W.mg_of X G e_MOST_LETTERS) G_fields_ascend G_is_wish_part, b13, k13, PySem.W.mg_of X G a13⟩
  have F14 := fun_mk (st := s_is_piece) l14 c14 k14
  have b14 := F14.binds (ps := ["thing"]) fun _ _ _ _ _ _ us hl => match us, hl with | [_], _ => rfl
  have G_is_piece : FnH l.prog w K mg base 3 "is_piece" ["thing"] (spIsPiece) := ⟨_, _, ok_is_piece F14 B (PySem.W.mg_of X G e_MOST_LETTERS) G_fields_ascend G_is_piece_part, b14, k14, PySem.W.mg_of X G a14⟩
  have F15 := fun_mk (st := s_check_wish) l15 c15 k15
  have b15 := F15.binds (ps := ["thing"]) fun _ _ _ _ _ _ us hl => match us, hl with | [_], _ => rfl
  have G_check_wish : FnH l.prog w K mg base 6 "check_wish" ["thing"] (spChkWish) := ⟨_, _, ok_check_wish F15 B (PySem.W.mg_of X G e_MOST_LETTERS) G_is_wish, b15, k15, PySem.W.mg_of X G a15⟩
  have F16 := fun_mk (st := s_check_piece) l16 c16 k16
  have b16 := F16.binds (ps := ["thing"]) fun _ _ _ _ _ _ us hl => match us, hl with | [_], _ => rfl
  have G_check_piece : FnH l.prog w K mg base 4 "check_piece" ["thing"] (spChkPiece) := ⟨_, _, ok_check_piece F16 B (PySem.W.mg_of X G e_MOST_LETTERS) G_is_piece, b16, k16, PySem.W.mg_of X G a16⟩
  have F17 := fun_mk (st := s_wish_takes) l17 c17 k17
  have b17 := F17.binds (ps := ["wish", "piece"]) fun _ _ _ _ _ _ us hl => match us, hl with | [_, _], _ => rfl
  have G_wish_takes : FnH l.prog w K mg base 2 "wish_takes" ["wish", "piece"] (spTakes) := ⟨_, _, ok_wish_takes F17 B (PySem.W.mg_of X G e_MOST_LETTERS) G_span_holds, b17, k17, PySem.W.mg_of X G a17⟩
  have F18 := fun_mk (st := s_wants) l18 c18 k18
  have b18 := F18.binds (ps := ["wish", "piece"]) fun _ _ _ _ _ _ us hl => match us, hl with | [_, _], _ => rfl
  have G_wants : FnH l.prog w K mg base 7 "wants" ["wish", "piece"] (spWants) := ⟨_, _, ok_wants F18 B (PySem.W.mg_of X G e_MOST_LETTERS) G_check_wish G_check_piece G_wish_takes, b18, k18, PySem.W.mg_of X G a18⟩
  have F19 := fun_mk (st := s_spans_by_field) l19 c19 k19
  have b19 := F19.binds (ps := ["wish"]) fun _ _ _ _ _ _ us hl => match us, hl with | [_], _ => rfl
  have G_spans_by_field : FnH l.prog w K mg base 1 "spans_by_field" ["wish"] (spSpansBy) := ⟨_, _, ok_spans_by_field F19 B (PySem.W.mg_of X G e_MOST_LETTERS) , b19, k19, PySem.W.mg_of X G a19⟩
  have F20 := fun_mk (st := s_reaches_spans) l20 c20 k20
  have b20 := F20.binds (ps := ["one", "other_spans"]) fun _ _ _ _ _ _ us hl => match us, hl with | [_, _], _ => rfl
  have G_reaches_spans : FnH l.prog w K mg base 2 "reaches_spans" ["one", "other_spans"] (spReachSp) := ⟨_, _, ok_reaches_spans F20 B (PySem.W.mg_of X G e_MOST_LETTERS) G_span_reaches, b20, k20, PySem.W.mg_of X G a20⟩
  have F21 := fun_mk (st := s_wish_reaches) l21 c21 k21
  have b21 := F21.binds (ps := ["one", "other"]) fun _ _ _ _ _ _ us hl => match us, hl with | [_, _], _ => rfl
  have G_wish_reaches : FnH l.prog w K mg base 3 "wish_reaches" ["one", "other"] (spWishReach) := ⟨_, _, ok_wish_reaches F21 B (PySem.W.mg_of X G e_MOST_LETTERS) G_reaches_spans G_spans_by_field, b21, k21, PySem.W.mg_of X G a21⟩
  have F22 := fun_mk (st := s_covers) l22 c22 k22
  have b22 := F22.binds (ps := ["one", "other"]) fun _ _ _ _ _ _ us hl => match us, hl with | [_, _], _ => rfl
  have G_covers : FnH l.prog w K mg base 7 "covers" ["one", "other"] (spCoversW) := ⟨_, _, ok_covers F22 B (PySem.W.mg_of X G e_MOST_LETTERS) G_check_wish G_wish_reaches, b22, k22, PySem.W.mg_of X G a22⟩
  have F23 := fun_mk (st := s_parting_piece) l23 c23 k23
  have b23 := F23.binds (ps := ["one", "other"]) fun _ _ _ _ _ _ us hl => match us, hl with | [_, _], _ => rfl
  have G_parting_piece : FnH l.prog w K mg base 7 "parting_piece" ["one", "other"] (spParting) := ⟨_, _, ok_parting_piece F23 B (PySem.W.mg_of X G e_MOST_LETTERS) G_check_wish G_wish_reaches G_spans_by_field G_number_apart G_number_of, b23, k23, PySem.W.mg_of X G a23⟩
  have F24 := fun_mk (st := s_law_bag) l24 c24 k24
  have b24 := F24.binds (ps := ["script"]) fun _ _ _ _ _ _ us hl => match us, hl with | [_], _ => rfl
  have G_law_bag : FnH l.prog w K mg base 1 "_law_bag" ["script"] (spBag K) := ⟨_, _, ok_law_bag F24 B (PySem.W.mg_of X G e_MOST_LETTERS) , b24, k24, PySem.W.mg_of X G a24⟩
  have F25 := fun_mk (st := s_law_draw) l25 c25 k25
  have b25 := F25.binds (ps := ["bag", "many"]) fun _ _ _ _ _ _ us hl => match us, hl with | [_, _], _ => rfl
  have G_law_draw : FnH l.prog w K mg base 1 "_law_draw" ["bag", "many"] (spDraw) := ⟨_, _, ok_law_draw F25 B (PySem.W.mg_of X G e_MOST_LETTERS) , b25, k25, PySem.W.mg_of X G a25⟩
  have F26 := fun_mk (st := s_law_number) l26 c26 k26
  have b26 := F26.binds (ps := ["bag"]) fun _ _ _ _ _ _ us hl => match us, hl with | [_], _ => rfl
  have G_law_number : FnH l.prog w K mg base 2 "_law_number" ["bag"] (spNumber) := ⟨_, _, ok_law_number F26 B (PySem.W.mg_of X G e_MOST_LETTERS) G_law_draw, b26, k26, PySem.W.mg_of X G a26⟩
  have F27 := fun_mk (st := s_law_held) l27 c27 k27
  have b27 := F27.binds (ps := ["number"]) fun _ _ _ _ _ _ us hl => match us, hl with | [_], _ => rfl
  have G_law_held : FnH l.prog w K mg base 1 "_law_held" ["number"] (spHeld) := ⟨_, _, ok_law_held F27 B (PySem.W.mg_of X G e_MOST_LETTERS) , b27, k27, PySem.W.mg_of X G a27⟩
  have F28 := fun_mk (st := s_law_span) l28 c28 k28
  have b28 := F28.binds (ps := ["bag"]) fun _ _ _ _ _ _ us hl => match us, hl with | [_], _ => rfl
  have G_law_span : FnH l.prog w K mg base 3 "_law_span" ["bag"] (spSpan) := ⟨_, _, ok_law_span F28 B (PySem.W.mg_of X G e_MOST_LETTERS) G_law_draw G_law_number G_law_held, b28, k28, PySem.W.mg_of X G a28⟩
  have F29 := fun_mk (st := s_law_whole) l29 c29 k29
  have b29 := F29.binds (ps := ["found"]) fun _ _ _ _ _ _ us hl => match us, hl with | [_], _ => rfl
  have G_law_whole : FnH l.prog w K mg base 1 "_law_whole" ["found"] (spWhole K) := ⟨_, _, ok_law_whole F29 B (PySem.W.mg_of X G e_MOST_LETTERS) , b29, k29, PySem.W.mg_of X G a29⟩
  have F30 := fun_mk (st := s_law_in) l30 c30 k30
  have b30 := F30.binds (ps := ["span", "number"]) fun _ _ _ _ _ _ us hl => match us, hl with | [_, _], _ => rfl
  have G_law_in : FnH l.prog w K mg base 1 "_law_in" ["span", "number"] (spIn) := ⟨_, _, ok_law_in F30 B (PySem.W.mg_of X G e_MOST_LETTERS) , b30, k30, PySem.W.mg_of X G a30⟩
  have F31 := fun_mk (st := s_law_field) l31 c31 k31
  have b31 := F31.binds (ps := ["bag"]) fun _ _ _ _ _ _ us hl => match us, hl with | [_], _ => rfl
  have G_law_field : FnH l.prog w K mg base 2 "_law_field" ["bag"] (spLawField) := ⟨_, _, ok_law_field F31 B (PySem.W.mg_of X G e_MOST_LETTERS) G_law_draw, b31, k31, PySem.W.mg_of X G a31⟩
  have F32 := fun_mk (st := s_law_fields) l32 c32 k32
  have b32 := F32.binds (ps := ["bag", "most"]) fun _ _ _ _ _ _ us hl => match us, hl with | [_, _], _ => rfl
  have G_law_fields : FnH l.prog w K mg base 3 "_law_fields" ["bag", "most"] (spLawFields) := ⟨_, _, ok_law_fields F32 B (PySem.W.mg_of X G e_MOST_LETTERS) G_law_field G_law_draw, b32, k32, PySem.W.mg_of X G a32⟩
  have F33 := fun_mk (st := s_law_moved) l33 c33 k33
  have b33 := F33.binds (ps := ["bag", "span"]) fun _ _ _ _ _ _ us hl => match us, hl with | [_, _], _ => rfl
  have G_law_moved : FnH l.prog w K mg base 3 "_law_moved" ["bag", "span"] (spMoved) := ⟨_, _, ok_law_moved F33 B (PySem.W.mg_of X G e_MOST_LETTERS) G_law_draw G_law_number G_law_held, b33, k33, PySem.W.mg_of X G a33⟩
  have F34 := fun_mk (st := s_law_wish) l34 c34 k34
  have b34 := F34.binds (ps := ["bag", "fields"]) fun _ _ _ _ _ _ us hl => match us, hl with | [_, _], _ => rfl
  have G_law_wish : FnH l.prog w K mg base 4 "_law_wish" ["bag", "fields"] (spLawWish) := ⟨_, _, ok_law_wish F34 B (PySem.W.mg_of X G e_MOST_LETTERS) G_law_span G_law_draw, b34, k34, PySem.W.mg_of X G a34⟩
  have F35 := fun_mk (st := s_law_beside) l35 c35 k35
  have b35 := F35.binds (ps := ["bag", "wish", "fields"]) fun _ _ _ _ _ _ us hl => match us, hl with | [_, _, _], _ => rfl
  have G_law_beside : FnH l.prog w K mg base 4 "_law_beside" ["bag", "wish", "fields"] (spBeside6) := ⟨_, _, ok_law_beside F35 B (PySem.W.mg_of X G e_MOST_LETTERS) G_law_draw G_law_span G_law_moved, b35, k35, PySem.W.mg_of X G a35⟩
  have F36 := fun_mk (st := s_law_two) l36 c36 k36
  have b36 := F36.binds (ps := ["bag"]) fun _ _ _ _ _ _ us hl => match us, hl with | [_], _ => rfl
  have G_law_two : FnH l.prog w K mg base 5 "_law_two" ["bag"] (spTwo6) := ⟨_, _, ok_law_two F36 B (PySem.W.mg_of X G e_MOST_LETTERS) G_law_draw G_law_fields G_law_wish G_law_beside, b36, k36, PySem.W.mg_of X G a36⟩
  have F37 := fun_mk (st := s_law_span_of) l37 c37 k37
  have b37 := F37.binds (ps := ["wish", "field"]) fun _ _ _ _ _ _ us hl => match us, hl with | [_, _], _ => rfl
  have G_law_span_of : FnH l.prog w K mg base 1 "_law_span_of" ["wish", "field"] (spSpanOf) := ⟨_, _, ok_law_span_of F37 B (PySem.W.mg_of X G e_MOST_LETTERS) , b37, k37, PySem.W.mg_of X G a37⟩
  have F38 := fun_mk (st := s_law_points) l38 c38 k38
  have b38 := F38.binds (ps := ["spans"]) fun _ _ _ _ _ _ us hl => match us, hl with | [_], _ => rfl
  have G_law_points : FnH l.prog w K mg base 1 "_law_points" ["spans"] (spPoints K) := ⟨_, _, ok_law_points F38 B (PySem.W.mg_of X G e_MOST_LETTERS) , b38, k38, PySem.W.mg_of X G a38⟩
  have F39 := fun_mk (st := s_law_wants) l39 c39 k39
  have b39 := F39.binds (ps := ["wish", "piece"]) fun _ _ _ _ _ _ us hl => match us, hl with | [_, _], _ => rfl
  have G_law_wants : FnH l.prog w K mg base 2 "_law_wants" ["wish", "piece"] (spTakes) := ⟨_, _, ok_law_wants F39 B (PySem.W.mg_of X G e_MOST_LETTERS) G_law_in, b39, k39, PySem.W.mg_of X G a39⟩
  have F40 := fun_mk (st := s_law_is_field) l40 c40 k40
  have b40 := F40.binds (ps := ["thing"]) fun _ _ _ _ _ _ us hl => match us, hl with | [_], _ => rfl
  have G_law_is_field : FnH l.prog w K mg base 1 "_law_is_field" ["thing"] (spLawIsField) := ⟨_, _, ok_law_is_field F40 B (PySem.W.mg_of X G e_MOST_LETTERS) , b40, k40, PySem.W.mg_of X G a40⟩
  have F41 := fun_mk (st := s_law_is_span) l41 c41 k41
  have b41 := F41.binds (ps := ["low", "high"]) fun _ _ _ _ _ _ us hl => match us, hl with | [_, _], _ => rfl
  have G_law_is_span : FnH l.prog w K mg base 2 "_law_is_span" ["low", "high"] (spNever) := ⟨_, _, ok_law_is_span F41 B (PySem.W.mg_of X G e_MOST_LETTERS) G_law_whole, b41, k41, PySem.W.mg_of X G a41⟩
  have F42 := fun_mk (st := s_law_is_made) l42 c42 k42
  have b42 := F42.binds (ps := ["thing", "size"]) fun _ _ _ _ _ _ us hl => match us, hl with | [_, _], _ => rfl
  have G_law_is_made : FnH l.prog w K mg base 3 "_law_is_made" ["thing", "size"] (spLawMade2) := ⟨_, _, ok_law_is_made F42 B (PySem.W.mg_of X G e_MOST_LETTERS) G_law_is_field G_law_is_span G_law_whole, b42, k42, PySem.W.mg_of X G a42⟩
  have F43 := fun_mk (st := s_law_pieces) l43 c43 k43
  have b43 := F43.binds (ps := ["wish", "other"]) fun _ _ _ _ _ _ us hl => match us, hl with | [_, _], _ => rfl
  have G_law_pieces : FnH l.prog w K mg base 2 "_law_pieces" ["wish", "other"] (spPieces) := ⟨_, _, ok_law_pieces F43 B (PySem.W.mg_of X G e_MOST_LETTERS) G_law_points G_law_span_of G_law_in, b43, k43, PySem.W.mg_of X G a43⟩
  have F44 := fun_mk (st := s_law_right) l44 c44 k44
  have b44 := F44.binds (ps := ["one", "other", "turned"]) fun _ _ _ _ _ _ us hl => match us, hl with | [_, _, _], _ => rfl
  have G_law_right : FnH l.prog w K mg base 8 "_law_right" ["one", "other", "turned"] (spRight6) := ⟨_, _, ok_law_right F44 B (PySem.W.mg_of X G e_MOST_LETTERS) G_covers G_parting_piece G_law_wants G_wants G_law_is_made G_law_pieces, b44, k44, PySem.W.mg_of X G a44⟩
  have F45 := fun_mk (st := s_law) l45 c45 k45
  exact ok_law F45 B (PySem.W.mg_of X G e_MOST_LETTERS) G_law_bag G_law_two G_law_draw G_law_right
theorem walk {l : PySem.W.OpenLaw} {q : Program} {loose : List Str} {XP : (Str → Option Value) → Heap → Prop} {YP : World → Heap → Prop} {d : DefRec} {K : Params → PySem.W.Frag} (hn : l.most = some 63) (hdf : d.params.defaults = [])
    (hY : ∀ (w : World) (h : Heap), YP w h → (K w.params).In h)
    (F : ∀ (w : World) (mg : Str → Option Value) (fa : Addr) (h : Heap), (K w.params).In h → h.Ns mainGlobals mg → mg d.name = some (.ref fa) →
      ∃ fd : FuncData, (∀ (s : Shared) (u : Value), BindsTo s fd ⟨[u], []⟩ [("script", u)]) ∧ ∀ base : Heap, (K w.params).In base → base.Ns mainGlobals mg → FnOk l.prog w (K w.params) mg base CX0 9 fa fd ["script"] (spLaw (K w.params))) :
    PySem.W.WalkO q loose XP YP l.row.toRowW d [] (fun f vs => PySem.call f vs) :=
  L2.walk_of (n := 63) (k := 9) (x := "script") (CX := fun _ => CX0) (sp := fun w => spLaw (K w.params)) hn (by decide) hdf ⟨rfl, by decide, by decide, rfl⟩ hY F (fun _ _ a ns hl _ hS => ⟨a, ns, rfl, hS, hl, fun _ => rfl⟩) fun _ _ _ _ _ z => z
end K06
namespace PySem.W.Fast
def tw12556576972467449856 := 0
def tw13039526442203928576 := 0
def tw12885214072075034848 := 0
def tw739326405042826560 := 0
def tw15561632351233736064 := 0
def tw6166956833234238176 := 0
def tw8585873921520466784 := 0
def tw10677017738046023616 := 0
def tw11779083870476490688 := 0
def tw2255931167093735457 := 0
def tw8442088803473442881 := 0
def tw4920379590520701057 := 0
def tw12069775241015380417 := 0
def tw16869907206184413665 := 0
def tw6294733477370395361 := 0
def tw9527423258173668129 := 0
def tw10125668114884686657 := 0
def tw8539099963776179041 := 0
def tw4361097796164892577 := 0
def tw308428057941315650 := 0
def tw8241326909712275682 := 0
def tw2083544562950228226 := 0
def tw6162718530173032802 := 0
def tw13086834782483103106 := 0
def tw3809334584677557858 := 0
def tw10498372388694468226 := 0
def tw5998069322031981186 := 0
def tw2098058121991758498 := 0
def tw5271807160369992707 := 0
def tw14156590811854007683 := 0
def tw8981656725873874403 := 0
def tw16864862633137507971 := 0
def tw4631958071897479139 := 0
def tw17566696246988765252 := 0
def tw6677333411615637604 := 0
def tw17056425081752872132 := 0
def tw4269853401249584420 := 0
def tw11505929746110916 := 0
def tw17098481937349624292 := 0
def tw16707998719096356324 := 0
def tw7096713117678966436 := 0
def tw13043055617632804612 := 0
def tw5533217060537816868 := 0
def tw15626001902012762341 := 0
def tw761969334653454725 := 0
def tw14379494556152509925 := 0
def tw17397155943818580517 := 0
def tw4489140002486098533 := 0
def tw13764490386315133669 := 0
def tw5250417762175256357 := 0
def tw4718750222014068549 := 0
def tw8705798828051247045 := 0
def tw12821983700727283685 := 0
def tw1494219066947417286 := 0
def tw15353339977574819046 := 0
def tw6716953083105300774 := 0
def tw9693072020541430278 := 0
def tw14453002412178343686 := 0
def tw2262154890315752230 := 0
def tw13789127788493009702 := 0
def tw17243606224679332678 := 0
def tw17762072661865703334 := 0
def tw1699019473627810758 := 0
def tw13837672043941234759 := 0
def tw8869854872472742407 := 0
def tw374567233772089063 := 0
def tw17373708049547017991 := 0
def tw4370568503784046856 := 0
def tw9280820995561433576 := 0
def tw16120339816700760616 := 0
def tw10929227273603427944 := 0
def tw4243670733450196584 := 0
def tw5188418892774338376 := 0
def tw5983948105256520552 := 0
def tw8114633125235716297 := 0
def tw9211133186569402569 := 0
def tw2205281364597434601 := 0
def tw11499532076063900937 := 0
def tw17385584646092790057 := 0
def tw1633920947966604745 := 0
def tw197423391259094569 := 0
def tw7351002585103101673 := 0
def tw1289387177710851082 := 0
def tw8192480605206781034 := 0
def tw6160724181876011242 := 0
def tw14200051571418807562 := 0
def tw13245105213616974250 := 0
def tw13438322485255798186 := 0
def tw11268544738466225770 := 0
def tw11895052435104824970 := 0
def tw10471115459817114346 := 0
def tw4150752145324718826 := 0
def tw13803316554135456522 := 0
def tw3472266062531324139 := 0
def tw11701528614308558219 := 0
def tw14596347825053487595 := 0
def tw13926078467933205003 := 0
def tw10552182499027270411 := 0
def tw7839966907142971436 := 0
def tw13162521291310953580 := 0
def tw17711533509105618092 := 0
def tw3035584350951910572 := 0
def tw13253872726769862924 := 0
def tw13190880138567577868 := 0
def tw2026174242149935500 := 0
def tw5438946507549346220 := 0
def tw11778540325407807948 := 0
def tw18148560131822210572 := 0
def tw11617223064641708588 := 0
def tw4357611496440112684 := 0
def tw13650843552069786380 := 0
def tw12352454075348075372 := 0
def tw1533297259190582124 := 0
def tw5549437913952948076 := 0
def tw12794225010555328557 := 0
def tw12628567154398208205 := 0
def tw3699929931654300877 := 0
def tw7546209577363648845 := 0
def tw12355188415975673197 := 0
def tw399083659804885389 := 0
def tw9897206528353596973 := 0
def tw13500258236152440429 := 0
def tw16276143915520604973 := 0
def tw3991820246798060333 := 0
def tw17536913951564459853 := 0
def tw17980899683728171885 := 0
def tw17974475561440017325 := 0
def tw12051912284894194637 := 0
def tw7793126401069532398 := 0
def tw14076322410799440142 := 0
def tw10029017294484082318 := 0
def tw9398862145398823662 := 0
def tw2772803031285431150 := 0
def tw17417918896855085966 := 0
def tw722590968134008718 := 0
def tw1357646108329598159 := 0
def tw6486848594444214671 := 0
def tw9469816628653691279 := 0
def tw15311097486439365039 := 0
def tw1791518753456657903 := 0
def tw1757644205778767503 := 0
def tw886580757840708303 := 0
def tw17617052927077913423 := 0
def tw7191643585647888912 := 0
def tw6338653555986474640 := 0
def tw17976955026934481712 := 0
def tw15725520609605069648 := 0
def tw9705965724421820433 := 0
def tw2507692758387725361 := 0
def tw16591723254173024369 := 0
def tw18089829470501913713 := 0
def tw14358350120939058289 := 0
def tw17726798834604999121 := 0
def tw10982706124921662129 := 0
def tw6097350553464084177 := 0
def tw16670597158971012945 := 0
def tw3350720033013905393 := 0
def tw11135502592730061842 := 0
def tw10933859228847480914 := 0
def tw3809406895670079570 := 0
def tw10301671661521568882 := 0
def tw15297690280636219538 := 0
def tw16388175597179969746 := 0
def tw12768044686327723282 := 0
def tw61904037517430130 := 0
def tw9139417639168657874 := 0
def tw259124848137568850 := 0
def tw698676302614737554 := 0
def tw11749144954578517714 := 0
def tw3602437171553356530 := 0
def tw8661753483141743378 := 0
def tw7239664306488094546 := 0
def tw12801005474401751954 := 0
def tw7372950219687830643 := 0
def tw2258951540999385203 := 0
def tw10163153339985117619 := 0
def tw4078877054447535603 := 0
def tw2655390112019318387 := 0
def tw6863611153739555667 := 0
def tw9797562333114587059 := 0
def tw12830368558741470131 := 0
def tw9915981964676723828 := 0
def tw13660258387249562804 := 0
def tw1064762496686812436 := 0
def tw6441747439204214260 := 0
def tw12775114103357138420 := 0
def tw13691882896837160468 := 0
def tw12979122958842565204 := 0
def tw4087453376097034932 := 0
def tw7333317175327178452 := 0
def tw136559673169670132 := 0
def tw1786967936175036533 := 0
def tw15888622727820843221 := 0
def tw880134680937479541 := 0
def tw1907680925054753141 := 0
def tw15271238532954157557 := 0
def tw9823069705036477077 := 0
def tw6785409426141752053 := 0
def tw13108257761319207701 := 0
def tw7989060262999285525 := 0
def tw12025759869839906645 := 0
def tw9545371844932202357 := 0
def tw7059345344243873749 := 0
def tw10432934892740643222 := 0
def tw11379670045626467734 := 0
def tw8739569233230276022 := 0
def tw4034201657902821878 := 0
def tw178014173444218454 := 0
def tw8506326224196868918 := 0
def tw7963931842879531031 := 0
def tw2956698998573852759 := 0
def tw5936591763661060215 := 0
def tw3328034297314111639 := 0
def tw3253222506059811031 := 0
def tw13062163844899776759 := 0
def tw12574418922494018807 := 0
def tw8334651588859001399 := 0
def tw14065188663907984983 := 0
def tw237209065493426807 := 0
def tw12034490955881778871 := 0
def tw17162189808901615319 := 0
def tw9332717293497056055 := 0
def tw13578482157349618583 := 0
def tw14093630442134815864 := 0
def tw16005377363057896696 := 0
def tw12811970957666797816 := 0
def tw18033666696924829944 := 0
def tw17846315754689618232 := 0
def tw5821799201639650648 := 0
def tw5029027805067798904 := 0
def tw10721313675048237464 := 0
def tw15401965589749060248 := 0
def tw17717497917954140856 := 0
def tw17605093864821776216 := 0
def tw7804016203373865816 := 0
def tw8766561913073147768 := 0
def tw2318893021567113080 := 0
def tw16166028769172866968 := 0
def tw6558328983822186905 := 0
def tw7616369110415497625 := 0
def tw15057744761866664505 := 0
def tw17436347175944591033 := 0
def tw12921497943824849689 := 0
def tw4279675475991458713 := 0
def tw13155421927029328889 := 0
def tw12336913786523459834 := 0
def tw15200524651098073594 := 0
def tw2474444363914334746 := 0
def tw13655790572714873402 := 0
def tw113118470528460442 := 0
def tw1864618360869840762 := 0
def tw12999917441889031195 := 0
def tw6297073649450017851 := 0
def tw16509198264537930107 := 0
def tw539310911033559483 := 0
def tw7023647404256503387 := 0
def tw14272919423804788315 := 0
def tw14426777135491999387 := 0
def tw103732419736761083 := 0
def tw1949739640046991227 := 0
def tw5216216732185013308 := 0
def tw17000939104368468220 := 0
def tw17491307771906437532 := 0
def tw15400854718461379164 := 0
def tw17074469512427500188 := 0
def tw17394513108914906812 := 0
def tw421551569498650460 := 0
def tw600394571194584093 := 0
def tw3594668794952163453 := 0
def tw904672839661332669 := 0
def tw13027307639916107005 := 0
def tw12525279536921889149 := 0
def tw4143024456055313789 := 0
def tw5561022473096375741 := 0
def tw14655568725078110749 := 0
def tw12735436436186808893 := 0
def tw3328665057278924413 := 0
def tw16481809711512279709 := 0
def tw5603805218400022654 := 0
def tw11967839819166976190 := 0
def tw2906014922055805182 := 0
def tw9675085801806946590 := 0
def tw4019576628319382814 := 0
def tw9163095114171319646 := 0
def tw6009093496850766174 := 0
def tw12128337785501952382 := 0
def tw2817134601227659774 := 0
def tw8345472297841412766 := 0
def tw1086879365408387103 := 0
def tw17565253472540044351 := 0
def tw2788546837331736703 := 0
def tw6176116293921771743 := 0
def tw3493317763138948703 := 0
def tw13145682231119999743 := 0
end PySem.W.Fast
open PySem PySem.W PyProof.Rows
set_option maxRecDepth 100000 in
set_option maxHeartbeats 0 in
theorem PySem.Challenge.cw_newsways_k06_whole_covers_or_parts_holds : PySem.Challenge.rw_newsways_k06_whole_covers_or_parts.Holds := by
  w_on; o_law; k_head; (case hw => w_witness2)
  k_fill
  refine K06.walk (l := PySem.Challenge.rw_newsways_k06_whole_covers_or_parts) rfl rfl (fun w h Y => PySem.W.kIn_of Y) ?F
  case F =>
    intro w mg fa h KX G hmg
    refine' K06.all_mk KX G hmg ?a1 ?l1 ?c1 ?k1 ?a2 ?l2 ?c2 ?k2 ?a3 ?l3 ?c3 ?k3 ?a4 ?l4 ?c4 ?k4 ?a5 ?l5 ?c5 ?k5 ?a6 ?l6 ?c6 ?k6 ?a7 ?l7 ?c7 ?k7 ?a8 ?l8 ?c8 ?k8 ?a9 ?l9 ?c9 ?k9 ?a10 ?l10 ?c10 ?k10 ?a11 ?l11 ?c11 ?k11 ?a12 ?l12 ?c12 ?k12 ?a13 ?l13 ?c13 ?k13 ?a14 ?l14 ?c14 ?k14 ?a15 ?l15 ?c15 ?k15 ?a16 ?l16 ?c16 ?k16 ?a17 ?l17 ?c17 ?k17 ?a18 ?l18 ?c18 ?k18 ?a19 ?l19 ?c19 ?k19 ?a20 ?l20 ?c20 ?k20 ?a21 ?l21 ?c21 ?k21 ?a22 ?l22 ?c22 ?k22 ?a23 ?l23 ?c23 ?k23 ?a24 ?l24 ?c24 ?k24 ?a25 ?l25 ?c25 ?k25 ?a26 ?l26 ?c26 ?k26 ?a27 ?l27 ?c27 ?k27 ?a28 ?l28 ?c28 ?k28 ?a29 ?l29 ?c29 ?k29 ?a30 ?l30 ?c30 ?k30 ?a31 ?l31 ?c31 ?k31 ?a32 ?l32 ?c32 ?k32 ?a33 ?l33 ?c33 ?k33 ?a34 ?l34 ?c34 ?k34 ?a35 ?l35 ?c35 ?k35 ?a36 ?l36 ?c36 ?k36 ?a37 ?l37 ?c37 ?k37 ?a38 ?l38 ?c38 ?k38 ?a39 ?l39 ?c39 ?k39 ?a40 ?l40 ?c40 ?k40 ?a41 ?l41 ?c41 ?k41 ?a42 ?l42 ?c42 ?k42 ?a43 ?l43 ?c43 ?k43 ?a44 ?l44 ?c44 ?k44 ?a45 ?l45 ?c45 ?k45 ?e_MOST_LETTERS  ?z_len ?z_range ?z_isinstance ?z_int ?z_bool ?z_tuple ?z_list ?z_max ?z_min ?z_all ?z_zip ?z_str ?z_dict ?z_sorted ?z_set ?z_any ?z_sum ?z_enumerate ?z_repr ?z_ord ?z_chr ?z_abs ?z_reversed
    (case a1 => k_is); (case l1 => k_is); (case c1 => k_is); (case k1 => k_is)
    (case a2 => k_is); (case l2 => k_is); (case c2 => k_is); (case k2 => k_is)
    (case a3 => k_is); (case l3 => k_is); (case c3 => k_is); (case k3 => k_is)
    (case a4 => k_is); (case l4 => k_is); (case c4 => k_is); (case k4 => k_is)
    (case a5 => k_is); (case l5 => k_is); (case c5 => k_is); (case k5 => k_is)
    (case a6 => k_is); (case l6 => k_is); (case c6 => k_is); (case k6 => k_is)
    (case a7 => k_is); (case l7 => k_is); (case c7 => k_is); (case k7 => k_is)
    (case a8 => k_is); (case l8 => k_is); (case c8 => k_is); (case k8 => k_is)
    (case a9 => k_is); (case l9 => k_is); (case c9 => k_is); (case k9 => k_is)
    (case a10 => k_is); (case l10 => k_is); (case c10 => k_is); (case k10 => k_is)
    (case a11 => k_is); (case l11 => k_is); (case c11 => k_is); (case k11 => k_is)
    (case a12 => k_is); (case l12 => k_is); (case c12 => k_is); (case k12 => k_is)
    (case a13 => k_is); (case l13 => k_is); (case c13 => k_is); (case k13 => k_is)
    (case a14 => k_is); (case l14 => k_is); (case c14 => k_is); (case k14 => k_is)
    (case a15 => k_is); (case l15 => k_is); (case c15 => k_is); (case k15 => k_is)
    (case a16 => k_is); (case l16 => k_is); (case c16 => k_is); (case k16 => k_is)
    (case a17 => k_is); (case l17 => k_is); (case c17 => k_is); (case k17 => k_is)
    (case a18 => k_is); (case l18 => k_is); (case c18 => k_is); (case k18 => k_is)
    (case a19 => k_is); (case l19 => k_is); (case c19 => k_is); (case k19 => k_is)
    (case a20 => k_is); (case l20 => k_is); (case c20 => k_is); (case k20 => k_is)
    (case a21 => k_is); (case l21 => k_is); (case c21 => k_is); (case k21 => k_is)
    (case a22 => k_is); (case l22 => k_is); (case c22 => k_is); (case k22 => k_is)
    (case a23 => k_is); (case l23 => k_is); (case c23 => k_is); (case k23 => k_is)
    (case a24 => k_is); (case l24 => k_is); (case c24 => k_is); (case k24 => k_is)
    (case a25 => k_is); (case l25 => k_is); (case c25 => k_is); (case k25 => k_is)
    (case a26 => k_is); (case l26 => k_is); (case c26 => k_is); (case k26 => k_is)
    (case a27 => k_is); (case l27 => k_is); (case c27 => k_is); (case k27 => k_is)
    (case a28 => k_is); (case l28 => k_is); (case c28 => k_is); (case k28 => k_is)
    (case a29 => k_is); (case l29 => k_is); (case c29 => k_is); (case k29 => k_is)
    (case a30 => k_is); (case l30 => k_is); (case c30 => k_is); (case k30 => k_is)
    (case a31 => k_is); (case l31 => k_is); (case c31 => k_is); (case k31 => k_is)
    (case a32 => k_is); (case l32 => k_is); (case c32 => k_is); (case k32 => k_is)
    (case a33 => k_is); (case l33 => k_is); (case c33 => k_is); (case k33 => k_is)
    (case a34 => k_is); (case l34 => k_is); (case c34 => k_is); (case k34 => k_is)
    (case a35 => k_is); (case l35 => k_is); (case c35 => k_is); (case k35 => k_is)
    (case a36 => k_is); (case l36 => k_is); (case c36 => k_is); (case k36 => k_is)
    (case a37 => k_is); (case l37 => k_is); (case c37 => k_is); (case k37 => k_is)
    (case a38 => k_is); (case l38 => k_is); (case c38 => k_is); (case k38 => k_is)
    (case a39 => k_is); (case l39 => k_is); (case c39 => k_is); (case k39 => k_is)
    (case a40 => k_is); (case l40 => k_is); (case c40 => k_is); (case k40 => k_is)
    (case a41 => k_is); (case l41 => k_is); (case c41 => k_is); (case k41 => k_is)
    (case a42 => k_is); (case l42 => k_is); (case c42 => k_is); (case k42 => k_is)
    (case a43 => k_is); (case l43 => k_is); (case c43 => k_is); (case k43 => k_is)
    (case a44 => k_is); (case l44 => k_is); (case c44 => k_is); (case k44 => k_is)
    (case a45 => k_is); (case l45 => k_is); (case c45 => k_is); (case k45 => k_is)
    (case e_MOST_LETTERS => k_is)
    (case z_len => k_is); (case z_range => k_is); (case z_isinstance => k_is); (case z_int => k_is); (case z_bool => k_is); (case z_tuple => k_is); (case z_list => k_is); (case z_max => k_is); (case z_min => k_is); (case z_all => k_is); (case z_zip => k_is); (case z_str => k_is); (case z_dict => k_is); (case z_sorted => k_is); (case z_set => k_is); (case z_any => k_is); (case z_sum => k_is); (case z_enumerate => k_is); (case z_repr => k_is); (case z_ord => k_is); (case z_chr => k_is); (case z_abs => k_is); (case z_reversed => k_is)

