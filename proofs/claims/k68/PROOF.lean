import PyProof.Rows.All
import Wide.All
import OpenK.AllK
import Wide.FinOn
import Lean
import PyProof.EqAt
import PyProof.EqKinds
import PyProof.TupleCall
import PyProof.NeKinds
import KE.IntBitsLaws
import PyProof.StrWalks
import PyProof.FString5
import PyProof.ConsumeWalk
import PyProof.DictCompW
import PyProof.ZipIter
import PyProof.AttrMissHeap
import PyProof.ListNew
import PyProof.DictUpdate
import PyProof.EnumMake
import PyProof.Rows.SetFrom
import KE.KRevSl
import PyProof.FitsBits
import PyProof.Rows.SortWalk
import PyProof.ListRange
import PyProof.Rows.SortStr
import PyProof.StrBlockL
import PyProof.JoinWalk
import PyProof.DictWalks
import PyProof.Rows.StrMeet
import PyProof.StationsW
import PyProof.RulesAs
import OpenK.KRaise
import PyProof.ExcInit
import PyProof.ExcBaseAll.ValueError
import PyProof.PassesOwn
import PyProof.NsDelKeeps
import PyProof.Rows.Catch
import PyProof.FString
import PyProof.Rows.FStr
import PyProof.ExcArgs
import PyProof.ExcAttrAll.ValueError
import PyProof.ReprRoads
import PyProof.ReprText
import PyProof.CallFns
import KE.KEqDict
import PyProof.AutoListH
import PyProof.SliceStr2
import PyProof.StrOps2
import PyProof.Rows.StrMadeLen
import PyProof.StrLawsIn
import OpenK.KTop
import PySem.Challenge.RW_newsways_k68_what_is_a_deed
-- CHANGE: your row's module here, as the last of these rows
set_option Elab.async false
set_option linter.all false
set_option maxRecDepth 100000
namespace L2
open PySem PySem.Spec PyProof.Rows
abbrev Key := Sum Int Str
def keyIs : Key → Value → Bool
  | .inl k, v => Value.isInt k v
  | .inr x, v => Value.isStrOf x v
def keyH (w : World) : Key → Int
  | .inl k => hashInt k
  | .inr x => hashStr w x
theorem keyIs_shape : ∀ {k : Key} {v : Value}, keyIs k v = true → (∃ i t, k = Sum.inl i ∧ v = Value.int i t) ∨ (∃ x t, k = Sum.inr x ∧ v = Value.str x t)
  | .inl i, v, h => by
    obtain ⟨t, e⟩ := Value.isInt_shape (k := i) (v := v) h
    exact .inl ⟨i, t, rfl, e⟩
  | .inr x, v, h => by
    obtain ⟨t, e⟩ := Value.isStrOf_shape (x := x) (v := v) h
    exact .inr ⟨x, t, rfl, e⟩
theorem keyIs_int (i : Int) (t : Tok) : keyIs (.inl i) (.int i t) = true := by simp [keyIs, Value.isInt]
theorem keyIs_str (x : Str) (t : Tok) : keyIs (.inr x) (.str x t) = true := by simp [keyIs, Value.isStrOf]
theorem key_ll (a b : Int) : decide ((Sum.inl a : Key) = Sum.inl b) = (a == b) := by
  by_cases e : a = b
  · subst e; simp
  · have h : ¬ (Sum.inl a : Key) = Sum.inl b := fun q => e (Sum.inl.inj q)
    rw [decide_eq_false h]
    exact (beq_eq_false_iff_ne.mpr e).symm
theorem key_rr (a b : Str) : decide ((Sum.inr a : Key) = Sum.inr b) = decide (a = b) := by
  by_cases e : a = b
  · subst e; simp
  · have h : ¬ (Sum.inr a : Key) = Sum.inr b := fun q => e (Sum.inr.inj q)
    rw [decide_eq_false h, decide_eq_false e]
theorem key_lr (a : Int) (b : Str) : decide ((Sum.inl a : Key) = Sum.inr b) = false := decide_eq_false (fun q => nomatch q)
theorem key_rl (a : Str) (b : Int) : decide ((Sum.inr a : Key) = Sum.inl b) = false := decide_eq_false (fun q => nomatch q)
def mixKind (prog : Program) (w : World) : PySem.KeyKind prog w Key where
  is := keyIs
  hash := keyH w
  inj := fun v a b ha hb => by
    rcases keyIs_shape ha with ⟨i, t, rfl, rfl⟩ | ⟨x, t, rfl, rfl⟩
    · rcases keyIs_shape hb with ⟨j, u, rfl, e⟩ | ⟨y, u, rfl, e⟩
      · injection e with e1 _; rw [e1]
      · exact nomatch e
    · rcases keyIs_shape hb with ⟨j, u, rfl, e⟩ | ⟨y, u, rfl, e⟩
      · exact nomatch e
      · injection e with e1 _; rw [e1]
  byValue := fun k v h => by
    rcases keyIs_shape h with ⟨i, t, rfl, rfl⟩ | ⟨x, t, rfl, rfl⟩ <;> rfl
  pyHash := fun hv h => by
    rcases keyIs_shape hv with ⟨i, t, rfl, rfl⟩ | ⟨x, t, rfl, rfl⟩
    · exact wpAny_pyHash_int h
    · exact wpAny_pyHash_str h
  eqBool := fun hu hv h => by
    rcases keyIs_shape hu with ⟨i, t, rfl, rfl⟩ | ⟨x, t, rfl, rfl⟩
    · rcases keyIs_shape hv with ⟨j, u, rfl, rfl⟩ | ⟨y, u, rfl, rfl⟩
      · rw [key_ll] at h; exact wpAny_eqBool_int h
      · rw [key_lr] at h; exact SeqAt.EqAt.int_str i t y u _ _ _ _ h
    · rcases keyIs_shape hv with ⟨j, u, rfl, rfl⟩ | ⟨y, u, rfl, rfl⟩
      · rw [key_rl] at h; exact SeqAt.EqAt.str_int x t j u _ _ _ _ h
      · rw [key_rr] at h; exact wpAny_eqBool_str h
  «strs» := fun k x t v h => by
    rcases keyIs_shape h with ⟨i, u, rfl, e⟩ | ⟨y, u, rfl, e⟩
    · exact nomatch e
    · injection e with e1 _
      subst e1
      cases v <;> rfl
theorem mixKind_int (prog : Program) (w : World) (i : Int) (t : Tok) : (mixKind prog w).is (.inl i) (.int i t) = true := keyIs_int i t
theorem mixKind_str (prog : Program) (w : World) (x : Str) (t : Tok) : (mixKind prog w).is (.inr x) (.str x t) = true := keyIs_str x t
end L2
namespace L2
open PySem PySem.Spec PyProof.Rows
inductive V where
  | non | bl (b : Bool) | int (i : Int) | str (x : Str) | byt (b : Array UInt8) | flt (b : UInt64) | ref (a : Addr) | ty (n : String)
  deriving DecidableEq
def RelV : V → Value → Prop
  | .non, u => u = Value.none
  | .bl b, u => u = Value.bool b
  | .int i, u => ∃ t, u = Value.int i t
  | .str x, u => ∃ t, u = Value.str x t
  | .byt b, u => ∃ t, u = Value.bytes b t
  | .flt b, u => ∃ t, u = Value.float b t
  | .ref a, u => u = Value.ref a
  | .ty n, u => u = Value.type n
abbrev Vals : List V → List Value → Prop := Paired RelV
theorem Vals.length {xs : List V} {us : List Value} (r : Vals xs us) : xs.length = us.length := Paired.length r
theorem Vals.get : ∀ {xs : List V} {us : List Value} {i : Nat} {x : V}, Vals xs us → xs[i]? = some x → ∃ u, us[i]? = some u ∧ RelV x u
  | _, _, _, _, .nil, e => by simp at e
  | _, _, 0, _, .cons r _, e => by simp at e; subst e; exact ⟨_, rfl, r⟩
  | _, _, i + 1, x, .cons _ t, e => by
    obtain ⟨u, h1, h2⟩ := Vals.get (i := i) (x := x) t (by simpa using e)
    exact ⟨u, by simpa using h1, h2⟩
theorem Vals.set {x : V} {u : Value} (r : RelV x u) : ∀ {xs : List V} {us : List Value} (i : Nat), Vals xs us → Vals (xs.set i x) (us.set i u)
  | _, _, _, .nil => .nil
  | _, _, 0, .cons _ t => .cons r t
  | _, _, i + 1, .cons q t => .cons q (Vals.set r i t)
theorem Vals.append : ∀ {xs ys : List V} {us ws : List Value}, Vals xs us → Vals ys ws → Vals (xs ++ ys) (us ++ ws)
  | _, _, _, _, .nil, s => s
  | _, _, _, _, .cons r t, s => .cons r (Vals.append t s)
theorem Vals.take : ∀ {xs : List V} {us : List Value} (n : Nat), Vals xs us → Vals (xs.take n) (us.take n)
  | _, _, 0, _ => .nil
  | _, _, _ + 1, .nil => .nil
  | _, _, n + 1, .cons r t => .cons r (Vals.take n t)
theorem Vals.drop : ∀ {xs : List V} {us : List Value} (n : Nat), Vals xs us → Vals (xs.drop n) (us.drop n)
  | _, _, 0, r => r
  | _, _, _ + 1, .nil => .nil
  | _, _, n + 1, .cons _ t => Vals.drop n t
def RelO : Option V → Option Value → Prop
  | some v, some u => RelV v u
  | none, none => True
  | _, _ => False
def KV {κ : Type} : List (κ × V) → List (κ × Value) → Prop := Paired fun (p : κ × V) (q : κ × Value) => p.1 = q.1 ∧ RelV p.2 q.2
def kV : Key → V
  | .inl i => .int i
  | .inr x => .str x
inductive HO where
    | lst (xs : List V)
    | tup (xs : List V)
    | dK (kvs : List (Key × V)) | dT (kvs : List (List Key × V))
    | set (S : Int → Bool) (n : Nat)
    | ins (C dx : Addr) (fs : List (Str × V))
    | own (x : Addr)
    | xd (fs : List (Str × V))
    | met (f x : Addr)
    | rng (lo hi : Int)
    | frz (o : Obj) (u : HO)
    | tbl (ps : Array Value)
    | ext (φ : Heap → Prop)
def IsTupP (h : Heap) (a : Addr) (items : Array Value) : Prop := ∃ o, h.get? a = some o ∧ o.cls = .type "tuple" ∧ o.dict = none ∧ ∃ n, o.data = .seq items n
theorem IsTupP.tup {h : Heap} {a : Addr} {items : Array Value} (x : IsTupP h a items) : IsTup h a items := let ⟨o, h1, h2, _, h3⟩ := x; ⟨o, h1, h2, h3⟩
theorem IsTupP.new (h : Heap) (items : Array Value) : IsTupP (h.push { cls := .type "tuple", data := .seq items }) h.objs.size items := ⟨_, Heap.get?_push_size _ rfl, rfl, rfl, _, rfl⟩
abbrev Hp := Addr → Option HO
def upd (H : Hp) (a : Addr) (o : HO) : Hp := fun b => if b = a then some o else H b
theorem upd_same {H : Hp} {a : Addr} {o : HO} : upd H a o a = some o := by unfold upd; rw [if_pos rfl]
theorem upd_ne {H : Hp} {a b : Addr} {o : HO} (h : b ≠ a) : upd H a o b = H b := by unfold upd; rw [if_neg h]
theorem ne_of {H : Hp} {a b : Addr} {o u : HO} (h : H a = some o) (h' : H b = some u) (d : o ≠ u) : a ≠ b := by
  intro e; subst e; rw [h] at h'; exact d (Option.some.inj h')
theorem ne_of_none {H : Hp} {a b : Addr} {o : HO} (h : H a = some o) (h' : H b = none) : a ≠ b := by
  intro e; subst e; rw [h] at h'; cases h'
section
variable (P : Program) (w : World)
def ObjOk (H : Hp) (h : Heap) (a : Addr) : HO → Prop
  | .lst xs => xs.length ≤ sizeLine ∧ ∃ (its : List Value) (n : Nat), Vals xs its ∧ h.get? a = some { cls := .type "list", data := .seq its.toArray n }
  | .tup xs => xs.length ≤ sizeLine ∧ ∃ its : List Value, Vals xs its ∧ IsTupP h a its.toArray
  | .dK kvs => kvs.length ≤ sizeLine ∧ (a == sysModules) = false ∧ ∃ vs, KV kvs vs ∧ h.DictOf (mixKind P w) a vs
  | .dT kvs => kvs.length ≤ sizeLine ∧ (a == sysModules) = false ∧ ∃ xs : List (List Key × Addr × Value),
      Paired (fun (p : List Key × V) (q : List Key × Addr × Value) => p.1 = q.1 ∧ H q.2.1 = some (.tup (p.1.map kV)) ∧ RelV p.2 q.2.2) kvs xs ∧
      ∃ o es ep, h.get? a = some o ∧ o.ExactDict ∧ o.data = .dict es ep ∧ es.toList = xs.map (entryOfKey (tupleKind (mixKind P w))) ∧ (xs.map (·.1)).Nodup
  | .set S n => h.SetOf (intKind P w) a S n
  | .ins C dx fs => H dx = some (.own a) ∧ fs.length ≤ 1000 ∧ dx ≠ a ∧ h.get? a = some (PySem.W.instObj C dx) ∧
      ∃ mA, h.Ns1 dx mA ∧ (∀ f, RelO (fs.lookup f) (mA f)) ∧ PySem.Within mA (fs.map (·.1))
  | .own _ => ∃ o, h.get? a = some o
  | .xd fs => ∃ mA, h.Ns1 a mA ∧ ∀ f, RelO (fs.lookup f) (mA f)
  | .rng lo hi => ∃ t u v, h.get? a = some { cls := .type "range", data := .fields #[.int lo t, .int hi u, .int 1 v] }
  | .frz o u => h.get? a = some o ∧ ObjOk H h a u
  | .tbl ps => h.get? a = some { cls := .none, data := .fields ps }
  | .met f x => h.get? a = some (PySem.W.methodObj (.ref f) (.ref x))
  | .ext φ => φ h ∧ (∃ o, h.get? a = some o) ∧ ∀ h1 h2 : Heap, φ h1 → (∀ o, h1.get? a = some o → h2.get? a = some o) → φ h2
def HOk (H : Hp) (h : Heap) : Prop := ∀ a o, H a = some o → ObjOk P w H h a o
end
section
variable {P : Program} {w : World} {H H' : Hp} {h h' : Heap} {a : Addr} {o : HO}
theorem ObjOk.lt (x : ObjOk P w H h a o) : a < h.objs.size := by
  cases o with
  | lst xs => obtain ⟨_, _, _, _, e⟩ := x; exact Heap.lt_size e
  | tup xs => obtain ⟨_, _, _, p⟩ := x; exact (show IsTupP _ _ _ from p).tup.lt
  | dK kvs => obtain ⟨_, _, _, _, o, _, _, e, _⟩ := x; exact Heap.lt_size e
  | dT kvs => obtain ⟨_, _, _, _, o, _, _, e, _⟩ := x; exact Heap.lt_size e
  | set S n => obtain ⟨o, _, _, _, e, _⟩ := x; exact Heap.lt_size e
  | ins C dx fs => obtain ⟨_, _, _, e, _⟩ := x; exact Heap.lt_size e
  | own y => obtain ⟨_, e⟩ := x; exact Heap.lt_size e
  | xd fs => obtain ⟨_, ⟨_, _, _, e, _⟩, _⟩ := x; exact Heap.lt_size e
  | rng lo hi => obtain ⟨_, _, _, e⟩ := x; exact Heap.lt_size e
  | frz ob u => obtain ⟨e, _⟩ := x; exact Heap.lt_size e
  | tbl ps => exact Heap.lt_size (show h.get? a = some _ from x)
  | met f y => exact Heap.lt_size (show h.get? a = some _ from x)
  | ext φ => obtain ⟨_, ⟨_, e⟩, _⟩ := x; exact Heap.lt_size e
theorem Paired.mapP {α β : Type} {F G : α → β → Prop} : ∀ {l₁ : List α} {l₂ : List β}, Paired F l₁ l₂ → (∀ a b, F a b → G a b) → Paired G l₁ l₂
  | _, _, .nil, _ => .nil
  | _, _, .cons r t, f => .cons (f _ _ r) (Paired.mapP t f)
theorem ObjOk.stay (x : ObjOk P w H h a o) (k : ∀ b u, (b = a ∨ H b = some (.own a)) → h.get? b = some u → h'.get? b = some u)
    (ho : ∀ b, H b = some (.own a) → H' b = some (.own a)) (ht : ∀ b xs, H b = some (.tup xs) → H' b = some (.tup xs)) : ObjOk P w H' h' a o := by
  induction o with
  | lst xs => obtain ⟨z, its, n, r, e⟩ := x; exact ⟨z, its, n, r, k _ _ (.inl rfl) e⟩
  | tup xs => obtain ⟨z, its, r, ob, e, c⟩ := x; exact ⟨z, its, r, ob, k _ _ (.inl rfl) e, c⟩
  | dK kvs => obtain ⟨z, y, vs, r, ob, es, ep, e, c⟩ := x; exact ⟨z, y, vs, r, ob, es, ep, k _ _ (.inl rfl) e, c⟩
  | dT kvs =>
    obtain ⟨z, y, xs, r, ob, es, ep, e, c⟩ := x
    exact ⟨z, y, xs, Paired.mapP r fun p q z => ⟨z.1, ht _ _ z.2.1, z.2.2⟩, ob, es, ep, k _ _ (.inl rfl) e, c⟩
  | set S n => obtain ⟨ob, es, ep, t, e, c⟩ := x; exact ⟨ob, es, ep, t, k _ _ (.inl rfl) e, c⟩
  | ins C dx fs =>
    obtain ⟨d, z, ne, e, mA, ⟨od, es, ep, e2, c⟩, r⟩ := x
    exact ⟨ho _ d, z, ne, k _ _ (.inl rfl) e, mA, ⟨od, es, ep, k _ _ (.inr d) e2, c⟩, r⟩
  | own y => obtain ⟨ob, e⟩ := x; exact ⟨ob, k _ _ (.inl rfl) e⟩
  | xd fs => obtain ⟨mA, ⟨od, es, ep, e, c⟩, r⟩ := x; exact ⟨mA, ⟨od, es, ep, k _ _ (.inl rfl) e, c⟩, r⟩
  | rng lo hi => obtain ⟨t, u, v, e⟩ := x; exact ⟨t, u, v, k _ _ (.inl rfl) e⟩
  | frz ob u ih => obtain ⟨e, q⟩ := x; exact ⟨k _ _ (.inl rfl) e, ih q⟩
  | tbl ps =>
    have e : h.get? a = some { cls := .none, data := .fields ps } := x
    show h'.get? a = some { cls := .none, data := .fields ps }
    exact k a _ (.inl rfl) e
  | met f y =>
    have e : h.get? a = some (PySem.W.methodObj (.ref f) (.ref y)) := x
    show h'.get? a = some (PySem.W.methodObj (.ref f) (.ref y))
    exact k a _ (.inl rfl) e
  | ext φ => obtain ⟨p, ⟨o, e⟩, st⟩ := x; exact ⟨st _ _ p fun o q => k _ _ (.inl rfl) q, ⟨o, k _ _ (.inl rfl) e⟩, st⟩
theorem HOk.lt (x : HOk P w H h) (e : H a = some o) : a < h.objs.size := (x a o e).lt
theorem HOk.fresh (x : HOk P w H h) (e : h.objs.size ≤ a) : H a = none := by
  cases q : H a with
  | none => rfl
  | some u => exact absurd (Nat.lt_of_lt_of_le (x.lt q) e) (Nat.lt_irrefl _)
theorem HOk.kept (x : HOk P w H h) (k : ∀ b u, h.get? b = some u → h'.get? b = some u) : HOk P w H h' := fun a o e =>
  (x a o e).stay (fun b u _ q => k b u q) (fun _ q => q) fun _ _ q => q
theorem HOk.laid (x : HOk P w H h) (k : ∀ b u, h.get? b = some u → h'.get? b = some u) (hp : h.objs.size ≤ a) (new : ObjOk P w (upd H a o) h' a o) : HOk P w (upd H a o) h' := fun b u e => by
  have hn := x.fresh hp
  by_cases hb : b = a
  · subst hb; rw [upd_same] at e; cases e; exact new
  · rw [upd_ne hb] at e
    exact (x b u e).stay (fun c v _ q => k c v q) (fun c q => by rw [upd_ne (ne_of_none q hn)]; exact q) fun c xs q => by rw [upd_ne (ne_of_none q hn)]; exact q
end
def Rd (H : Hp) (a : Addr) (u : HO) : Prop := H a = some u ∨ ∃ o, H a = some (.frz o u)
theorem Rd.ok {P : Program} {w : World} {H : Hp} {h : Heap} {a : Addr} {u : HO} (r : Rd H a u) (x : HOk P w H h) : ObjOk P w H h a u := by
  rcases r with r | ⟨o, r⟩
  · exact x a u r
  · obtain ⟨_, q⟩ := x a _ r
    exact q
def Mut : Option HO → Prop
  | some (.lst _) => True
  | some (.dK _) => True
  | some (.dT _) => True
  | some (.set _ _) => True
  | some (.ins _ _ _) => True
  | some (.ext _) => True
  | _ => False
section
variable {P : Program} {w : World} {H : Hp} {h h' : Heap} {x e : Addr} {o' : HO}
theorem HOk.write (ok : HOk P w H h) (mu : Mut (H x)) (he : e = x ∨ H e = some (.own x)) (k : ∀ b u, b ≠ e → h.get? b = some u → h'.get? b = some u) (heo : ∃ u, h'.get? e = some u)
    (new : ObjOk P w (upd H x o') h' x o') : HOk P w (upd H x o') h' := fun b u q => by
  have nown : ∀ c y, H c = some (.own y) → c ≠ x := fun c y r z => by subst z; rw [r] at mu; exact mu
  have ntup : ∀ c xs, H c = some (.tup xs) → c ≠ x := fun c xs r z => by subst z; rw [r] at mu; exact mu
  by_cases hb : b = x
  · subst hb; rw [upd_same] at q; cases q; exact new
  · rw [upd_ne hb] at q
    by_cases hbe : b = e
    · have q' : H b = some (.own x) := by
        rcases he with z | z
        · exact absurd (hbe.trans z) hb
        · rw [hbe]; exact z
      rw [q] at q'; cases q'
      obtain ⟨v, hv⟩ := heo
      exact ⟨v, by rw [hbe]; exact hv⟩
    · refine (ok b u q).stay (fun c v hc r => k c v ?_ r) (fun c r => by rw [upd_ne (nown c b r)]; exact r) fun c xs r => by rw [upd_ne (ntup c xs r)]; exact r
      rcases hc with rfl | hc
      · exact hbe
      · rintro rfl
        rcases he with z | z
        · exact nown c b hc z
        · rw [hc] at z; cases z; exact hb rfl
end
structure Un (fs ex : List Addr) (H H' : Hp) (h h' : Heap) : Prop where
  keep : ∀ b o, h.get? b = some o → H b = none → b ∉ fs → b ∉ ex → h'.get? b = some o
  slot : ∀ b o, h.get? b = some o → H b = none → b ∈ fs → b ∉ ex → ∃ sl, h'.get? b = some { o with slots := sl }
  free : ∀ b o, h.get? b = some o → H b = none → b ∉ ex → H' b = none
  there : ∀ b o, h.get? b = some o → b ∉ ex → ∃ o', h'.get? b = some o'
  tups : ∀ b xs, H b = some (.tup xs) → H' b = some (.tup xs)
  frzs : ∀ b o u, H b = some (.frz o u) → H' b = some (.frz o u)
  tbls : ∀ b ps, H b = some (.tbl ps) → ∃ more, H' b = some (.tbl (ps ++ more))
section
variable {fs fs' ex ex' : List Addr} {H H1 H2 : Hp} {h h1 h2 h' : Heap} {a x e : Addr} {o : HO}
theorem Un.any (u : Un fs ex H H1 h h1) {b : Addr} {ob : Obj} (q : h.get? b = some ob) (n : H b = none) (hx : b ∉ ex) : ∃ sl, h1.get? b = some { ob with slots := sl } := by
  by_cases hb : b ∈ fs
  · exact u.slot b ob q n hb hx
  · exact ⟨ob.slots, u.keep b ob q n hb hx⟩
theorem Un.kept (k : ∀ b u, h.get? b = some u → h'.get? b = some u) : Un fs ex H H h h' :=
  ⟨fun b ob q _ _ _ => k b ob q, fun b ob q _ _ _ => ⟨ob.slots, k b ob q⟩, fun _ _ _ n _ => n, fun b ob q _ => ⟨ob, k b ob q⟩, fun _ _ q => q, fun _ _ _ q => q, fun _ ps q => ⟨#[], by rw [q]; simp⟩⟩
theorem Un.refl : Un fs ex H H h h := Un.kept fun _ _ q => q
theorem Un.laid (k : ∀ b u, h.get? b = some u → h'.get? b = some u) (hp : h.objs.size ≤ a) (hn : H a = none) : Un fs ex H (upd H a o) h h' where
  keep := fun b u q _ _ _ => k b u q
  slot := fun b u q _ _ _ => ⟨u.slots, k b u q⟩
  free := fun b u q n _ => by rw [upd_ne (Nat.ne_of_lt (Nat.lt_of_lt_of_le (Heap.lt_size q) hp))]; exact n
  there := fun b u q _ => ⟨u, k b u q⟩
  tups := fun b xs q => by rw [upd_ne (ne_of_none q hn)]; exact q
  frzs := fun b u xs q => by rw [upd_ne (ne_of_none q hn)]; exact q
  tbls := fun b ps q => ⟨#[], by rw [upd_ne (ne_of_none q hn), q]; simp⟩
theorem Un.write (mu : Mut (H x)) (he : e = x ∨ H e = some (.own x)) (k : ∀ b u, b ≠ e → h.get? b = some u → h'.get? b = some u) (heo : ∃ u, h'.get? e = some u) : Un fs ex H (upd H x o) h h' := by
  have hx : ∀ b, H b = none → b ≠ x := fun b n z => by subst z; rw [n] at mu; exact mu
  have hb : ∀ b, H b = none → b ≠ e := fun b n z => by
    subst z
    rcases he with r | r
    · exact hx b n r
    · rw [n] at r; cases r
  have hm : ∀ b u, H b = some u → ¬ Mut (some u) → b ≠ x := fun b u q nm z => by subst z; rw [q] at mu; exact nm mu
  refine ⟨fun b u q n _ _ => k b u (hb b n) q, fun b u q n _ _ => ⟨u.slots, k b u (hb b n) q⟩, fun b u q n _ => by rw [upd_ne (hx b n)]; exact n, fun b u q _ => ?_,
    fun b xs q => by rw [upd_ne (hm b _ q fun z => z)]; exact q, fun b u xs q => by rw [upd_ne (hm b _ q fun z => z)]; exact q, fun b ps q => ⟨#[], by rw [upd_ne (hm b _ q fun z => z), q]; simp⟩⟩
  by_cases hbe : b = e
  · subst hbe; exact heo
  · exact ⟨u, k b u hbe q⟩
end
def trk (h : Heap) (H : Hp) : List Addr := (List.range h.objs.size).filter fun a => (H a).isSome
def hidT (h : Heap) (H : Hp) : Heap := PySem.W.hideAll h (trk h H)
theorem hidT_size (h : Heap) (H : Hp) : (hidT h H).objs.size = h.objs.size := PySem.W.hideAll_size _ _
theorem hidT_get {h : Heap} {H : Hp} {b : Addr} {o : Obj} (e : h.get? b = some o) (n : H b = none) : (hidT h H).get? b = some o :=
  PySem.W.hideAll_get _ e fun hm => by
    have q : (H b).isSome = true := (List.mem_filter.mp hm).2
    rw [n] at q; simp at q
theorem of_hidT {h : Heap} {H : Hp} {b : Addr} {o : Obj} (e : (hidT h H).get? b = some o) : h.get? b = some o ∧ H b = none := by
  have e' : h.get? b = some o := PySem.W.of_hideAll (trk h H) e
  refine ⟨e', ?_⟩
  cases q : H b with
  | none => rfl
  | some x =>
    have hm : b ∈ trk h H := List.mem_filter.mpr ⟨List.mem_range.mpr (Heap.lt_size e'), by simp [q]⟩
    have z : (hidT h H).get? b = none := PySem.W.hideAll_none (trk h H) hm
    rw [z] at e; cases e
def allNews (g h : Heap) (L : Addr) : List (Addr × Obj) := (List.range h.objs.size).filterMap fun a => if a = L ∨ (g.get? a).isSome = true then none else (h.get? a).map fun o => (a, o)
def rest (g h : Heap) (L d : Addr) : List (Addr × Obj) := (allNews g h L).filter fun p => decide (p.1 ≠ d)
end L2
namespace L2
open PySem PySem.Spec PyProof.Rows
structure Mod (K : PySem.W.Frag) (mg : Str → Option Value) (base : Heap) : Prop where
  kin : K.In base
  glob : base.Ns mainGlobals mg
  blt : ∃ mb, base.Ns builtinsNs mb ∧ ∀ x : Str, x ≠ "__name__" → mb x = bootBuiltins x
  nolimit : base.NoLimit
structure Cx where
  prog : Program
  w : World
  K : PySem.W.Frag
  mg : Str → Option Value
  base : Heap
  A : Around
  N : List Str
  s₀ : Shared
  H₀ : Hp
  env : Env
  outer : List Env
  stack : List Env
  ex : List Addr
  fn : Str → Bool
  calm : Bool
  pn : List (Addr × Obj)
  xe : Value → Shared → Prop
def frs (l : List Env) : List Addr := l.filterMap (·.frame)
abbrev Cx.fs (X : Cx) : List Addr := frs X.outer
def Vis (sc : Scope) (x : Str) : Prop := sc.names.lookup x = some .local ∨ sc.names.lookup x = some .cell ∨ sc.names.lookup x = some .free
def Loc (sc : Scope) (x : Str) : Prop := sc.names.lookup x = some .local ∨ sc.names.lookup x = some .cell
def Look (env : Env) (h : Heap) (m : Str → Option Value) (x : Str) (u : Value) : Prop :=
  (env.kindOf x = some .local ∧ m x = some u) ∨ ((env.kindOf x = some .cell ∨ env.kindOf x = some .free) ∧ ∃ c, env.cells.lookup x = some c ∧ h.IsCell c (some u))
structure Cx.Ok (X : Cx) : Prop where
  mod : Mod X.K X.mg X.base
  kind : X.env.scope.kind = .function
  glob : X.env.globals = mainGlobals
  blt : X.env.builtins = builtinsNs
  above : X.s₀.heap.objs.size ≤ X.env.locals
  inj : ∀ x y c, X.env.cells.lookup x = some c → X.env.cells.lookup y = some c → x = y
  has : ∀ x, (X.env.kindOf x = some .cell ∨ X.env.kindOf x = some .free) → ∃ c, X.env.cells.lookup x = some c
  cab : ∀ x c, X.fn x = true → X.env.cells.lookup x = some c → X.s₀.heap.objs.size ≤ c
  hd : X.calm = true → X.A.handled = none
  frames : X.A.frames = some X.stack
  stk : X.stack = X.outer ∨ (X.stack = X.env :: X.outer ∧ X.env.frame = some X.env.locals)
  exf : ∀ b ∈ X.ex, b ≠ X.env.locals ∧ ∀ x c, X.env.cells.lookup x = some c → c ≠ b
  bs : ∀ b o, X.base.get? b = some o → X.s₀.heap.get? b = some o ∧ X.H₀ b = none
  bsz : X.base.objs.size ≤ X.s₀.heap.objs.size
  noex : ∀ b o, X.base.get? b = some o → b ∉ X.ex
  exfs : ∀ b ∈ X.ex, b ∉ X.fs
  funs : X.s₀.heap.FunFrames X.base X.outer
  frf : ∀ b ∈ X.fs, X.H₀ b = none
structure Inv (X : Cx) (pins : List (Addr × Obj)) (σ : List (Option V)) (H : Hp) (s : Shared) : Prop where
  ok : X.Ok
  os : s.os = X.s₀.os
  bare : AllBare s.gens
  base : Un X.fs X.ex X.H₀ H X.s₀.heap s.heap
  loc : ∃ m, s.heap.Ns X.env.locals m ∧ ∀ (i : Nat) (x : Str) (v : V), X.N[i]? = some x → σ[i]? = some (some v) → Vis X.env.scope x → ∃ u, RelV v u ∧ Look X.env s.heap m x u
  cell : ∀ x c, X.env.cells.lookup x = some c → ∃ v, s.heap.IsCell c v
  free : H X.env.locals = none
  freeC : ∀ x c, X.env.cells.lookup x = some c → H c = none
  pin : ∀ p ∈ X.pn ++ pins, s.heap.get? p.1 = some p.2 ∧ H p.1 = none ∧ p.1 ≠ X.env.locals ∧ p.1 ∉ X.fs ∧ ∀ v, p.2.data ≠ .cell v
  hok : HOk X.prog X.w H s.heap
  len : σ.length = X.N.length
section
variable {X : Cx} {pins : List (Addr × Obj)} {σ : List (Option V)} {H H' : Hp} {s : Shared} {h' : Heap}
theorem Cx.Ok.nofr (ok : X.Ok) {b : Addr} {o : Obj} (e : X.base.get? b = some o) : b ∉ X.fs := fun hb => by
  have := (ok.funs.mem hb).1
  rw [e] at this; cases this
theorem Inv.bs (I : Inv X pins σ H s) : ∀ b o, X.base.get? b = some o → s.heap.get? b = some o ∧ H b = none := fun b o e =>
  ⟨I.base.keep b o (I.ok.bs b o e).1 (I.ok.bs b o e).2 (I.ok.nofr e) (I.ok.noex b o e), I.base.free b o (I.ok.bs b o e).1 (I.ok.bs b o e).2 (I.ok.noex b o e)⟩
theorem Inv.bk (I : Inv X pins σ H s) : ∀ b o, X.base.get? b = some o → s.heap.get? b = some o := fun b o e => (I.bs b o e).1
theorem Inv.mod (I : Inv X pins σ H s) : Mod X.K X.mg X.base := I.ok.mod
theorem Inv.kIn (I : Inv X pins σ H s) : X.K.In s.heap := I.ok.mod.kin.keeps I.bk
theorem Inv.lt (I : Inv X pins σ H s) : X.env.locals < s.heap.objs.size := let ⟨_, hn, _⟩ := I.loc; hn.lt
theorem Inv.sz (I : Inv X pins σ H s) : X.s₀.heap.objs.size ≤ s.heap.objs.size := Nat.le_trans I.ok.above (Nat.le_of_lt I.lt)
theorem Inv.nofs (I : Inv X pins σ H s) {a : Addr} (h : s.heap.objs.size ≤ a) : a ∉ X.fs := fun hb => by
  obtain ⟨_, o, ho, _⟩ := I.ok.funs.mem hb
  exact absurd (Nat.lt_of_lt_of_le (Heap.lt_size ho) (Nat.le_trans I.sz h)) (Nat.lt_irrefl _)
theorem Inv.cne (I : Inv X pins σ H s) : ∀ x c, X.env.cells.lookup x = some c → c ≠ X.env.locals := fun x c e z => by
  obtain ⟨v, o, ho, hd⟩ := I.cell x c e
  obtain ⟨m, ⟨o', es, ep, ho', hd', _⟩, _⟩ := I.loc
  rw [z, ho'] at ho; cases ho; rw [hd'] at hd; cases hd
theorem Inv.funs (I : Inv X pins σ H s) : s.heap.FunFrames X.base X.outer := by
  have all : ∀ (l : List Env), (∀ b ∈ frs l, b ∈ X.fs) → X.s₀.heap.FunFrames X.base l → s.heap.FunFrames X.base l := by
    intro l
    induction l with
    | nil => intro _ _; trivial
    | cons env r ih =>
      intro hs hl
      obtain ⟨hk, ⟨L, o, hf, hn, ho, hd⟩, hr⟩ := hl
      have hL : L ∈ X.fs := hs L (by unfold frs; rw [List.filterMap_cons, hf]; exact List.mem_cons_self)
      obtain ⟨sl, e⟩ := I.base.slot L o ho (I.ok.frf L hL) hL fun z => I.ok.exfs L z hL
      exact ⟨hk, ⟨L, _, hf, hn, e, hd⟩, ih (fun b hb => hs b (by unfold frs; rw [List.filterMap_cons, hf]; exact List.mem_cons_of_mem _ hb)) hr⟩
  exact all X.outer (fun _ hb => hb) I.ok.funs
theorem Inv.stack (I : Inv X pins σ H s) : s.heap.FunFrames X.base X.stack := by
  rcases I.ok.stk with e | ⟨e, hf⟩
  · rw [e]; exact I.funs
  · rw [e]
    obtain ⟨m, hn, _⟩ := I.loc
    refine .cons (by rw [I.ok.kind]; decide) hf hn ?_ I.funs
    exact Heap.get?_none_of_le (Nat.le_trans I.ok.bsz I.ok.above)
theorem Inv.stkSub (I : Inv X pins σ H s) : ∀ b ∈ frs X.stack, b ∈ X.env.locals :: X.fs := fun b hb => by
  rcases I.ok.stk with e | ⟨e, hf⟩
  · rw [e] at hb; exact List.mem_cons_of_mem _ hb
  · rw [e] at hb
    unfold frs at hb
    rw [List.filterMap_cons, hf] at hb
    exact hb
theorem Inv.stkFree (I : Inv X pins σ H s) : ∀ b ∈ frs X.stack, H b = none := fun b hb => by
  rcases List.mem_cons.mp (I.stkSub b hb) with e | hb
  · rw [e]; exact I.free
  · obtain ⟨_, o, ho, _⟩ := I.ok.funs.mem hb
    exact I.base.free b o ho (I.ok.frf b hb) fun z => I.ok.exfs b z hb
theorem Inv.step {g' : Array GenState} {t' : Nat} {d' : Drawn} {ch : List Addr} (I : Inv X pins σ H s)
    (hch : ∀ b ∈ ch, (b ∈ X.ex ∨ X.s₀.heap.objs.size ≤ b) ∧ b ≠ X.env.locals ∧ (∀ x c, X.env.cells.lookup x = some c → c ≠ b) ∧ ∀ p ∈ X.pn ++ pins, p.1 ≠ b)
    (keep : ∀ b o, b ≠ X.env.locals → b ∉ X.fs → b ∉ ch → s.heap.get? b = some o → H b = none → h'.get? b = some o)
    (slot : ∀ b o, b ≠ X.env.locals → b ∈ X.fs → b ∉ ch → s.heap.get? b = some o → H b = none → ∃ sl, h'.get? b = some { o with slots := sl }) (free : ∀ b o, b ∉ ch → s.heap.get? b = some o → H b = none → H' b = none)
    (there : ∀ b o, b ∉ ch → s.heap.get? b = some o → ∃ o', h'.get? b = some o')
    (tups : ∀ b xs, H b = some (.tup xs) → H' b = some (.tup xs)) (frzs : ∀ b o u, H b = some (.frz o u) → H' b = some (.frz o u)) (tbls : ∀ b ps, H b = some (.tbl ps) → ∃ more, H' b = some (.tbl (ps ++ more)))
    (ns : ∀ m, s.heap.Ns X.env.locals m → h'.Ns X.env.locals m) (hok : HOk X.prog X.w H' h') (hg : AllBare g') :
    Inv X pins σ H' { s with heap := h', gens := g', drawn := d', toks := t' } := by
  have neL : ∀ b o, X.s₀.heap.get? b = some o → b ≠ X.env.locals := fun b o e => Nat.ne_of_lt (Nat.lt_of_lt_of_le (Heap.lt_size e) I.ok.above)
  have neC : ∀ b o, X.s₀.heap.get? b = some o → b ∉ X.ex → b ∉ ch := fun b o e hx hb => by
    rcases (hch b hb).1 with z | z
    · exact hx z
    · exact absurd (Nat.lt_of_lt_of_le (Heap.lt_size e) z) (Nat.lt_irrefl _)
  have cellK : ∀ x c, X.env.cells.lookup x = some c → ∀ v, s.heap.IsCell c v → h'.IsCell c v := fun x c e v ⟨o, ho, hd⟩ => by
    have nch : c ∉ ch := fun z => (hch c z).2.2.1 x c e rfl
    by_cases hc : c ∈ X.fs
    · obtain ⟨sl, q⟩ := slot c o (I.cne x c e) hc nch ho (I.freeC x c e)
      exact ⟨_, q, hd⟩
    · exact ⟨o, keep c o (I.cne x c e) hc nch ho (I.freeC x c e), hd⟩
  refine ⟨I.ok, I.os, hg, ⟨fun b o e n hb hx => ?_, fun b o e n hb hx => ?_, fun b o e n hx => ?_, fun b o e hx => ?_, fun b xs e => tups b xs (I.base.tups b xs e), fun b o xs e => frzs b o xs (I.base.frzs b o xs e), fun b ps e => ?_⟩, ?_, fun x c e => ?_, ?_, fun x c e => ?_, fun p hp => ?_, hok, I.len⟩
  · exact keep b o (neL b o e) hb (neC b o e hx) (I.base.keep b o e n hb hx) (I.base.free b o e n hx)
  · obtain ⟨sl, e1⟩ := I.base.slot b o e n hb hx
    obtain ⟨sl', e2⟩ := slot b _ (neL b o e) hb (neC b o e hx) e1 (I.base.free b o e n hx)
    exact ⟨sl', e2⟩
  · obtain ⟨o', e1⟩ := I.base.there b o e hx
    exact free b o' (neC b o e hx) e1 (I.base.free b o e n hx)
  · obtain ⟨o', e1⟩ := I.base.there b o e hx
    exact there b o' (neC b o e hx) e1
  · obtain ⟨m1, e1⟩ := I.base.tbls b ps e
    obtain ⟨m2, e2⟩ := tbls b _ e1
    exact ⟨m1 ++ m2, by rw [e2, Array.append_assoc]⟩
  · obtain ⟨m, hn, hl⟩ := I.loc
    refine ⟨m, ns m hn, fun i x v e1 e2 e3 => ?_⟩
    obtain ⟨u, r, l⟩ := hl i x v e1 e2 e3
    refine ⟨u, r, ?_⟩
    rcases l with l | ⟨k, c, e, z⟩
    · exact .inl l
    · exact .inr ⟨k, c, e, cellK x c e _ z⟩
  · obtain ⟨v, z⟩ := I.cell x c e
    exact ⟨v, cellK x c e v z⟩
  · obtain ⟨m, ⟨o, _, _, ho, _⟩, _⟩ := I.loc
    exact free _ o (fun z => (hch _ z).2.1 rfl) ho I.free
  · obtain ⟨v, o, ho, hd⟩ := I.cell x c e
    exact free c o (fun z => (hch c z).2.2.1 x c e rfl) ho (I.freeC x c e)
  · obtain ⟨e, n, ne, nf, d⟩ := I.pin p hp
    have nch : p.1 ∉ ch := fun z => (hch p.1 z).2.2.2 p hp rfl
    exact ⟨keep p.1 p.2 ne nf nch e n, free p.1 p.2 nch e n, ne, nf, d⟩
theorem Inv.un {t' : Nat} (I : Inv X pins σ H s) (u : Un X.fs [] H H' s.heap h') (hok : HOk X.prog X.w H' h') : Inv X pins σ H' { s with heap := h', toks := t' } := by
  obtain ⟨m, ⟨o, es, ep, ho, r⟩, _⟩ := id I.loc
  obtain ⟨sl, hL⟩ := u.any ho I.free (by simp)
  exact I.step (g' := s.gens) (d' := s.drawn) (ch := []) (fun _ z => nomatch z) (fun b o _ hb _ e n => u.keep b o e n hb (by simp)) (fun b o _ hb _ e n => u.slot b o e n hb (by simp)) (fun b o _ e n => u.free b o e n (by simp)) (fun b o _ e => u.there b o e (by simp)) u.tups u.frzs u.tbls (fun m' hm => by
    obtain ⟨o', es', ep', ho', r'⟩ := hm
    rw [ho] at ho'; cases ho'
    exact ⟨_, es', ep', hL, r'⟩) hok I.bare
theorem Inv.call {g' : Array GenState} {t' : Nat} {d' : Drawn} {ch : List Addr} (I : Inv X pins σ H s) (u : Un (frs X.stack) ch H H' s.heap h') (hok : HOk X.prog X.w H' h') (hg : AllBare g')
    (hch : ∀ b ∈ ch, (b ∈ X.ex ∨ X.s₀.heap.objs.size ≤ b) ∧ b ≠ X.env.locals ∧ (∀ x c, X.env.cells.lookup x = some c → c ≠ b) ∧ ∀ p ∈ X.pn ++ pins, p.1 ≠ b) :
    Inv X pins σ H' { s with heap := h', gens := g', drawn := d', toks := t' } := by
  obtain ⟨m, ⟨o, es, ep, ho, r⟩, _⟩ := id I.loc
  obtain ⟨sl, hL⟩ := u.any ho I.free fun z => (hch _ z).2.1 rfl
  exact I.step (ch := ch) hch (fun b o hL hb hc e n => u.keep b o e n (fun z => (List.mem_cons.mp (I.stkSub b z)).elim hL hb) hc) (fun b o _ _ hc e n => u.any e n hc) (fun b o hc e n => u.free b o e n hc) (fun b o hc e => u.there b o e hc) u.tups u.frzs u.tbls (fun m' hm => by
    obtain ⟨o', es', ep', ho', r'⟩ := hm
    rw [ho] at ho'; cases ho'
    exact ⟨_, es', ep', hL, r'⟩) hok hg
theorem Inv.turned {t' : Nat} {it : Addr} (I : Inv X pins σ H s) (k : ∀ b o, b ≠ it → s.heap.get? b = some o → h'.get? b = some o) (hn : H it = none) (hL : it ≠ X.env.locals)
    (h1 : it ∈ X.ex ∨ X.s₀.heap.objs.size ≤ it) (h2 : ∀ x c, X.env.cells.lookup x = some c → c ≠ it) (h3 : ∀ p ∈ X.pn ++ pins, p.1 ≠ it) : Inv X pins σ H { s with heap := h', toks := t' } := by
  have nit : ∀ b u, H b = some u → b ≠ it := fun b u e z => by rw [z, hn] at e; cases e
  refine I.step (g' := s.gens) (d' := s.drawn) (ch := [it]) (fun b hb => ?_) (fun b o _ _ hc e _ => k b o (fun z => hc (by simp [z])) e) (fun b o _ _ hc e _ => ⟨o.slots, k b o (fun z => hc (by simp [z])) e⟩) (fun _ _ _ _ n => n)
    (fun b o hc e => ⟨o, k b o (fun z => hc (by simp [z])) e⟩) (fun _ _ e => e) (fun _ _ _ e => e) (fun b ps e => ⟨#[], by rw [e]; simp⟩) (fun m hm => ?_) (fun b u e => ?_) I.bare
  · have e : b = it := by simpa using hb
    subst e
    exact ⟨h1, hL, h2, h3⟩
  · obtain ⟨o, es, ep, ho, r⟩ := hm
    exact ⟨o, es, ep, k _ o (Ne.symm hL) ho, r⟩
  · refine (I.hok b u e).stay (fun c v hc q => k c v ?_ q) (fun _ q => q) fun _ _ q => q
    rcases hc with z | z
    · rw [z]; exact nit b u e
    · exact nit c _ z
theorem Inv.tok (I : Inv X pins σ H s) (t : Nat) : Inv X pins σ H { s with toks := t } := I.un (h' := s.heap) (t' := t) Un.refl I.hok
theorem Inv.kept {t' : Nat} (I : Inv X pins σ H s) (k : ∀ b u, s.heap.get? b = some u → h'.get? b = some u) : Inv X pins σ H { s with heap := h', toks := t' } := I.un (Un.kept k) (I.hok.kept k)
theorem Inv.laid {a : Addr} {o : HO} {t' : Nat} (I : Inv X pins σ H s) (k : ∀ b u, s.heap.get? b = some u → h'.get? b = some u) (hp : s.heap.objs.size ≤ a) (new : ObjOk X.prog X.w (upd H a o) h' a o) :
    Inv X pins σ (upd H a o) { s with heap := h', toks := t' } := I.un (Un.laid k hp (I.hok.fresh hp)) (I.hok.laid k hp new)
theorem Inv.write {x e : Addr} {o : HO} {t' : Nat} (I : Inv X pins σ H s) (mu : Mut (H x)) (he : e = x ∨ H e = some (.own x)) (k : ∀ b u, b ≠ e → s.heap.get? b = some u → h'.get? b = some u) (heo : ∃ u, h'.get? e = some u)
    (new : ObjOk X.prog X.w (upd H x o) h' x o) : Inv X pins σ (upd H x o) { s with heap := h', toks := t' } := I.un (Un.write mu he k heo) (I.hok.write mu he k heo new)
theorem Inv.pins_of {pins' : List (Addr × Obj)} (I : Inv X pins σ H s) (h : ∀ p ∈ pins', s.heap.get? p.1 = some p.2 ∧ H p.1 = none ∧ p.1 ≠ X.env.locals ∧ p.1 ∉ X.fs ∧ ∀ v, p.2.data ≠ .cell v) : Inv X pins' σ H s :=
  ⟨I.ok, I.os, I.bare, I.base, I.loc, I.cell, I.free, I.freeC, fun p hp => (List.mem_append.mp hp).elim (fun z => I.pin p (List.mem_append_left _ z)) (h p), I.hok, I.len⟩
theorem nodup_ix {N : List Str} (hN : N.Nodup) {i j : Nat} {x : Str} (a : N[i]? = some x) (b : N[j]? = some x) : i = j := by
  obtain ⟨h1, e1⟩ := List.getElem?_eq_some_iff.mp a
  obtain ⟨h2, e2⟩ := List.getElem?_eq_some_iff.mp b
  exact (List.getElem_inj hN).mp (e1.trans e2.symm)
theorem store_ok2 {M : Model} {A : Around} {E : Value → Shared → Prop} {i : Nat} {x : Str} {v : V} {u : Value} {Q : Unit → Shared → Prop} (I : Inv X pins σ H s) (hN : X.N.Nodup) (hi : X.N[i]? = some x) (hx : Loc X.env.scope x) (r : RelV v u)
    (h : ∀ s', Inv X pins (σ.set i (some v)) H s' → (∃ a, Heap.SameBut a s.heap s'.heap ∧ (a = X.env.locals ∨ X.env.cells.lookup x = some a)) → Q () s') (hf : X.fn x = true ∨ X.env.scope.names.lookup x = some .local := by first | exact .inl rfl | exact .inr rfl | assumption) : wpAny M A (storeName X.env x u) Q E s := by
  obtain ⟨m, hn, hl⟩ := id I.loc
  have hcls : (X.env.scope.kind == .class || (X.env.scope.kind == .module && X.env.locals != X.env.globals)) = false := by rw [I.ok.kind]; rfl
  have hiσ : i < σ.length := by rw [I.len]; exact (List.getElem?_eq_some_iff.mp hi).1
  have cne := I.cne
  have tracked : ∀ {a : Addr} {h' : Heap}, (∃ o, s.heap.get? a = some o ∧ H a = none) → Heap.SameBut a s.heap h' → HOk X.prog X.w H h' := fun {a h'} ha hs b ob e => by
    obtain ⟨_, _, hfree⟩ := ha
    refine (I.hok b ob e).stay (fun c w' hc q => (hs.2 c ?_).trans q) (fun _ q => q) fun _ _ q => q
    rintro rfl
    rcases hc with rfl | hc
    · rw [hfree] at e; cases e
    · rw [hfree] at hc; cases hc
  rcases hx with hk | hk
  · refine wpAny_storeName_local hk hn (fun h' hn' hs => ?_) hcls
    obtain ⟨oL, _, _, hoL, _⟩ := id hn
    refine h _ ⟨I.ok, I.os, I.bare, ⟨fun b o e n hb hx => ?_, fun b o e n hb hx => ?_, I.base.free, fun b o e hx => ?_, I.base.tups, I.base.frzs, I.base.tbls⟩, ⟨_, hn', fun j y v' e1 e2 e3 => ?_⟩, fun y c e => ?_, I.free, I.freeC, fun p hp => ?_, tracked ⟨oL, hoL, I.free⟩ hs, by simpa using I.len⟩ ⟨_, hs, .inl rfl⟩
    · exact (hs.2 b (Nat.ne_of_lt (Nat.lt_of_lt_of_le (Heap.lt_size e) I.ok.above))).trans (I.base.keep b o e n hb hx)
    · obtain ⟨sl, e1⟩ := I.base.slot b o e n hb hx
      exact ⟨sl, (hs.2 b (Nat.ne_of_lt (Nat.lt_of_lt_of_le (Heap.lt_size e) I.ok.above))).trans e1⟩
    · obtain ⟨o', e1⟩ := I.base.there b o e hx
      exact ⟨o', (hs.2 b (Nat.ne_of_lt (Nat.lt_of_lt_of_le (Heap.lt_size e) I.ok.above))).trans e1⟩
    · by_cases hj : j = i
      · subst hj
        rw [hi] at e1; cases e1
        rw [List.getElem?_set_self hiσ] at e2
        cases e2
        exact ⟨u, r, .inl ⟨hk, by simp⟩⟩
      · rw [List.getElem?_set_ne (Ne.symm hj)] at e2
        obtain ⟨u', r', q⟩ := hl j y v' e1 e2 e3
        refine ⟨u', r', ?_⟩
        rcases q with ⟨k, e⟩ | ⟨k, c, e, z⟩
        · refine .inl ⟨k, ?_⟩
          have : y ≠ x := fun e => hj (nodup_ix hN e1 (e ▸ hi))
          simp [this, e]
        · exact .inr ⟨k, c, e, z.sameBut hs (cne y c e)⟩
    · obtain ⟨w', z⟩ := I.cell y c e
      exact ⟨w', z.sameBut hs (cne y c e)⟩
    · obtain ⟨e, n, ne, nf, d⟩ := I.pin p hp
      exact ⟨(hs.2 p.1 ne).trans e, n, ne, nf, d⟩
  · have hfn : X.fn x = true := by
      rcases hf with z | z
      · exact z
      · rw [z] at hk; cases hk
    obtain ⟨c, hc⟩ := I.ok.has x (.inl hk)
    obtain ⟨w', z⟩ := I.cell x c hc
    refine wpAny_storeName_cell I.ok.kind hk hc z (fun h' hc' hs => ?_)
    obtain ⟨oc, hoc, hocd⟩ := id z
    refine h { s with heap := h' } ⟨I.ok, I.os, I.bare, ⟨fun b o e n hb hx => ?_, fun b o e n hb hx => ?_, I.base.free, fun b o e hx => ?_, I.base.tups, I.base.frzs, I.base.tbls⟩, ⟨m, hn.sameBut hs (Ne.symm (cne x c hc)), fun j y v' e1 e2 e3 => ?_⟩, fun y c' e => ?_, I.free, I.freeC, fun p hp => ?_, tracked ⟨oc, hoc, I.freeC x c hc⟩ hs, by simpa using I.len⟩ ⟨c, hs, .inr hc⟩
    · exact (hs.2 b (Nat.ne_of_lt (Nat.lt_of_lt_of_le (Heap.lt_size e) (I.ok.cab x c hfn hc)))).trans (I.base.keep b o e n hb hx)
    · obtain ⟨sl, e1⟩ := I.base.slot b o e n hb hx
      exact ⟨sl, (hs.2 b (Nat.ne_of_lt (Nat.lt_of_lt_of_le (Heap.lt_size e) (I.ok.cab x c hfn hc)))).trans e1⟩
    · obtain ⟨o', e1⟩ := I.base.there b o e hx
      exact ⟨o', (hs.2 b (Nat.ne_of_lt (Nat.lt_of_lt_of_le (Heap.lt_size e) (I.ok.cab x c hfn hc)))).trans e1⟩
    · by_cases hj : j = i
      · subst hj
        rw [hi] at e1; cases e1
        rw [List.getElem?_set_self hiσ] at e2
        cases e2
        exact ⟨u, r, .inr ⟨.inl hk, c, hc, hc'⟩⟩
      · rw [List.getElem?_set_ne (Ne.symm hj)] at e2
        obtain ⟨u', r', q⟩ := hl j y v' e1 e2 e3
        refine ⟨u', r', ?_⟩
        rcases q with q | ⟨k, c', e, z'⟩
        · exact .inl q
        · refine .inr ⟨k, c', e, z'.sameBut hs ?_⟩
          rintro rfl
          exact hj (nodup_ix hN e1 (I.ok.inj _ _ _ e hc ▸ hi))
    · by_cases hcc : c' = c
      · subst hcc; exact ⟨_, hc'⟩
      · obtain ⟨w2, z2⟩ := I.cell y c' e
        exact ⟨w2, z2.sameBut hs hcc⟩
    · obtain ⟨e, n, ne, nf, d⟩ := I.pin p hp
      refine ⟨(hs.2 p.1 ?_).trans e, n, ne, nf, d⟩
      intro q
      rw [q, hoc] at e
      have q' : oc = p.2 := Option.some.inj e
      exact d w' (by rw [← q']; exact hocd)
theorem store_ok {M : Model} {A : Around} {E : Value → Shared → Prop} {i : Nat} {x : Str} {v : V} {u : Value} {Q : Unit → Shared → Prop} (I : Inv X pins σ H s) (hN : X.N.Nodup) (hi : X.N[i]? = some x) (hx : Loc X.env.scope x) (r : RelV v u)
    (h : ∀ s', Inv X pins (σ.set i (some v)) H s' → Q () s') (hf : X.fn x = true ∨ X.env.scope.names.lookup x = some .local := by first | exact .inl rfl | exact .inr rfl | assumption) : wpAny M A (storeName X.env x u) Q E s :=
  store_ok2 I hN hi hx r (fun s' I' _ => h s' I') hf
theorem Inv.call' {s' : Shared} {ch : List Addr} (I : Inv X pins σ H s) (ho : s'.os = s.os) (u : Un (frs X.stack) ch H H' s.heap s'.heap) (hok : HOk X.prog X.w H' s'.heap) (hg : AllBare s'.gens)
    (hch : ∀ b ∈ ch, (b ∈ X.ex ∨ X.s₀.heap.objs.size ≤ b) ∧ b ≠ X.env.locals ∧ (∀ x c, X.env.cells.lookup x = some c → c ≠ b) ∧ ∀ p ∈ X.pn ++ pins, p.1 ≠ b) : Inv X pins σ H' s' := by
  obtain ⟨h', g', d', t', o'⟩ := s'
  have e : o' = s.os := ho
  subst e
  exact I.call (g' := g') (t' := t') (d' := d') u hok hg hch
end
abbrev XK := Value → Option Addr → Hp → Prop
abbrev St := List (Option V)
abbrev VK := V → Hp → Prop
abbrev TE := St → Hp → VK → Prop
abbrev TT := St → Hp → (Bool → Hp → Prop) → Prop
abbrev TA := St → Hp → (List V → Hp → Prop) → Prop
structure Ends where
  nx : St → Hp → Prop
  rt : VK
  bk : St → Hp → Prop := fun _ _ => False
  ct : St → Hp → Prop := fun _ _ => False
abbrev TS := Ends → St → Hp → Prop
def EP (X : Cx) (pins : List (Addr × Obj)) (σ : St) (Q : VK) (u : Value) (s' : Shared) : Prop := ∃ v H', Inv X pins σ H' s' ∧ RelV v u ∧ Q v H'
def TP (X : Cx) (pins : List (Addr × Obj)) (σ : St) (Q : Bool → Hp → Prop) (b : Bool) (s' : Shared) : Prop := ∃ H', Inv X pins σ H' s' ∧ Q b H'
def AP (X : Cx) (pins : List (Addr × Obj)) (σ : St) (Q : List V → Hp → Prop) (us : List Value) (s' : Shared) : Prop := ∃ vs H', Inv X pins σ H' s' ∧ Vals vs us ∧ Q vs H'
def SP (X : Cx) (pins : List (Addr × Obj)) (D : Ends) (f : Flow) (s' : Shared) : Prop :=
  match f with
  | .next => ∃ σ' H', Inv X pins σ' H' s' ∧ D.nx σ' H'
  | .brk => ∃ σ' H', Inv X pins σ' H' s' ∧ D.bk σ' H'
  | .cont => ∃ σ' H', Inv X pins σ' H' s' ∧ D.ct σ' H'
  | .ret u => ∃ v σ' H', Inv X pins σ' H' s' ∧ RelV v u ∧ D.rt v H'
def PE (X : Cx) (e : Expr) (t : TE) : Prop :=
  ∀ (pins : List (Addr × Obj)) (s : Shared) (σ : St) (H : Hp) (Q : VK), Inv X pins σ H s → t σ H Q → wpAny (model X.prog X.w) X.A (eval e X.env) (EP X pins σ Q) X.xe s
def PT (X : Cx) (e : Expr) (t : TT) : Prop :=
  ∀ (pins : List (Addr × Obj)) (s : Shared) (σ : St) (H : Hp) (Q : Bool → Hp → Prop), Inv X pins σ H s → t σ H Q → wpAny (model X.prog X.w) X.A (isTrue e X.env (eval e X.env)) (TP X pins σ Q) X.xe s
def PW (X : Cx) (e : Expr) (t : TT) : Prop :=
  ∀ (whole : Sem Value) (pins : List (Addr × Obj)) (s : Shared) (σ : St) (H : Hp) (Q : Bool → Hp → Prop), Inv X pins σ H s → t σ H Q → wpAny (model X.prog X.w) X.A (isTrue e X.env whole) (TP X pins σ Q) X.xe s
theorem PW.pt {X : Cx} {e : Expr} {t : TT} (h : PW X e t) : PT X e t := h _
def PA (X : Cx) (es : List Expr) (t : TA) : Prop :=
  ∀ (pos : Pos) (pins : List (Addr × Obj)) (s : Shared) (σ : St) (H : Hp) (Q : List V → Hp → Prop), Inv X pins σ H s → t σ H Q → wpAny (model X.prog X.w) X.A (spliced (backTo pos (starEach es X.env))) (AP X pins σ Q) X.xe s
def PS (X : Cx) (st : Stmt) (t : TS) : Prop :=
  ∀ (pins : List (Addr × Obj)) (s : Shared) (σ : St) (H : Hp) (D : Ends), Inv X pins σ H s → t D σ H → wpAny (model X.prog X.w) X.A (exec st X.env) (SP X pins D) X.xe s
def PSs (X : Cx) (st : List Stmt) (t : TS) : Prop :=
  ∀ (pins : List (Addr × Obj)) (s : Shared) (σ : St) (H : Hp) (D : Ends), Inv X pins σ H s → t D σ H → wpAny (model X.prog X.w) X.A (execs st X.env) (SP X pins D) X.xe s
theorem thn {α : Type} {t : Sem α} {Q Q' : α → Shared → Prop} {M : Model} {A : Around} {E : Value → Shared → Prop} {s : Shared} (h : wpAny M A t Q E s) (hQ : ∀ a s, Q a s → Q' a s) : wpAny M A t Q' E s := wpAny_mono h hQ fun _ _ x => x
end L2
namespace L2
open PySem PySem.Spec PyProof.Rows
section
variable {X : Cx}
def tVar (i : Nat) : TE := fun σ H Q => ∃ v, σ[i]? = some (some v) ∧ Q v H
def tC (v : V) : TE := fun _ H Q => Q v H
theorem pe_var {i : Nat} {x : Str} {pos : Pos} (hN : X.N[i]? = some x) (hv : Vis X.env.scope x) (hd : (x == ("__debug__" : Str)) = false := by decide) (hcd : (x == ("__classdict__" : Str)) = false := by decide) : PE X (.Name x pos) (tVar i) := by
  intro pins s σ H Q I h
  obtain ⟨v, e, h⟩ := h
  obtain ⟨m, hn, hl⟩ := I.loc
  obtain ⟨u, r, l⟩ := hl i x v hN e hv
  have fin : EP X pins σ Q u s := ⟨v, H, I, r, h⟩
  rcases l with ⟨hk, hm⟩ | ⟨hk, c, hc, hcell⟩
  · exact wpAny_Name (wpAny_loadName_local I.ok.kind hk hn hm fin) hd
  · rcases hk with hk | hk
    · exact wpAny_Name (wpAny_loadName_cell I.ok.kind hk hc hcell fin) hd
    · exact wpAny_Name (wpAny_loadName_free I.ok.kind hk hc hcell fin hcd) hd
theorem pe_int {i j pos} : PE X (.Constant (.int i) j pos) (tC (.int i)) := fun _ _ _ H _ I h => wpAny_Constant_int ⟨.int i, H, I.tok _, ⟨_, rfl⟩, h⟩
theorem pe_bl {b j pos} : PE X (.Constant (.bool b) j pos) (tC (.bl b)) := fun _ _ _ H _ I h => Constant_bool ⟨.bl b, H, I, rfl, h⟩
theorem pe_non {j pos} : PE X (.Constant .none j pos) (tC .non) := fun _ _ _ H _ I h => Constant_none ⟨.non, H, I, rfl, h⟩
theorem pe_str {x j pos} : PE X (.Constant (.str x) j pos) (tC (.str x)) := fun _ _ _ H _ I h => Calls.Constant_str ⟨.str x, H, I.tok _, ⟨_, rfl⟩, h⟩
def Gl (X : Cx) (x : Str) : Prop := X.env.kindOf x = some .globalImplicit
theorem ld_glob {E : Value → Shared → Prop} {pins : List (Addr × Obj)} {s : Shared} {σ : St} {H : Hp} {x : Str} {u : Value} {pos : Pos} {Q : Value → Shared → Prop} (I : Inv X pins σ H s) (hg : Gl X x) (hm : X.mg x = some u) (h : Q u s)
    (hd : (x == ("__debug__" : Str)) = false := by decide) : wpAny (model X.prog X.w) X.A (eval (.Name x pos) X.env) Q E s :=
  Calls.Name_function_global I.ok.kind hg (Calls.loadGlobal_global (by rw [I.ok.glob]; exact I.mod.glob.keeps I.bk) hm h) hd
theorem ld_blt {E : Value → Shared → Prop} {pins : List (Addr × Obj)} {s : Shared} {σ : St} {H : Hp} {x : Str} {u : Value} {pos : Pos} {Q : Value → Shared → Prop} (I : Inv X pins σ H s) (hg : Gl X x) (hm : X.mg x = none) (hv : bootBuiltins x = some u) (h : Q u s)
    (hn : x ≠ "__name__" := by decide) (hd : (x == ("__debug__" : Str)) = false := by decide) : wpAny (model X.prog X.w) X.A (eval (.Name x pos) X.env) Q E s := by
  obtain ⟨mb, h1, h2⟩ := I.mod.blt
  exact Calls.Name_function_global I.ok.kind hg (Calls.loadGlobal_builtin (by rw [I.ok.glob]; exact I.mod.glob.keeps I.bk) hm (by rw [I.ok.blt]; exact h1.keeps I.bk) ((h2 x hn).trans hv) h) hd
theorem pe_glob {x : Str} {v : V} {u : Value} {pos : Pos} (hg : Gl X x) (hm : X.mg x = some u) (r : RelV v u) (hd : (x == ("__debug__" : Str)) = false := by decide) : PE X (.Name x pos) (tC v) :=
  fun _ _ _ H _ I h => ld_glob I hg hm ⟨v, H, I, r, h⟩ hd
theorem pe_bltn {x : Str} {v : V} {u : Value} {pos : Pos} (hg : Gl X x) (hm : X.mg x = none) (hv : bootBuiltins x = some u) (r : RelV v u) (hn : x ≠ "__name__" := by decide) (hd : (x == ("__debug__" : Str)) = false := by decide) : PE X (.Name x pos) (tC v) :=
  fun _ _ _ H _ I h => ld_blt I hg hm hv ⟨v, H, I, r, h⟩ hn hd
variable {a b : Expr} {ta tb : TE} {pos : Pos}
def PC (X : Cx) (op : CmpOp) (a b : Expr) (t : TE) : Prop :=
  ∀ (pins : List (Addr × Obj)) (s : Shared) (σ : St) (H : Hp) (Q : VK), Inv X pins σ H s → t σ H Q →
    wpAny (model X.prog X.w) X.A (eval a X.env) (fun v s₁ => wpAny (model X.prog X.w) X.A (eval b X.env) (fun u s₂ => wpAny (model X.prog X.w) X.A (compareOp op v u) (EP X pins σ Q) X.xe s₂) X.xe s₁) X.xe s
theorem nobehind (b : Expr) {op : CmpOp} (h : op ≠ .In) (h2 : op ≠ .NotIn) : behindInMarks op b = false := by
  have e1 : (op == CmpOp.In) = false := by cases op <;> first | rfl | exact absurd rfl h
  have e2 : (op == CmpOp.NotIn) = false := by cases op <;> first | rfl | exact absurd rfl h2
  cases b <;> simp [behindInMarks, e1, e2]
def tIsN (ta : TE) : TE := fun σ H Q => ta σ H fun x H1 => Q (.bl (decide (x = .non))) H1
def tNotN (ta : TE) : TE := fun σ H Q => ta σ H fun x H1 => Q (.bl (!decide (x = .non))) H1
theorem RelV.none_iff {x : V} {v : Value} (r : RelV x v) : (v == Value.none) = decide (x = .non) := by
  cases x with
  | non => cases r; rfl
  | bl _ => cases r; rfl
  | int _ => obtain ⟨t, rfl⟩ := r; rfl
  | str _ => obtain ⟨t, rfl⟩ := r; rfl
  | byt _ => obtain ⟨t, rfl⟩ := r; rfl
  | flt _ => obtain ⟨t, rfl⟩ := r; rfl
  | ref _ => cases r; rfl
  | ty _ => cases r; rfl
theorem pc_isN {j pos'} (ha : PE X a ta) : PC X .Is a (.Constant .none j pos') (tIsN ta) := by
  intro pins s σ H Q I h
  refine thn (ha pins s σ H _ I h) fun v s1 ⟨x, H1, I1, r1, q1⟩ => ?_
  exact Constant_none (is_none_gen ⟨.bl _, H1, I1, by rw [r1.none_iff]; rfl, q1⟩)
theorem pc_notN {j pos'} (ha : PE X a ta) : PC X .IsNot a (.Constant .none j pos') (tNotN ta) := by
  intro pins s σ H Q I h
  refine thn (ha pins s σ H _ I h) fun v s1 ⟨x, H1, I1, r1, q1⟩ => ?_
  exact Constant_none (isnot_none_gen ⟨.bl _, H1, I1, by rw [r1.none_iff]; rfl, q1⟩)
def tB (t : TE) : TT := fun σ H Q => t σ H fun x H1 => ∃ c, x = .bl c ∧ Q c H1
theorem pe_cmp {op : CmpOp} {t : TE} (h : PC X op a b t) (h1 : behindInMarks op b = false := by first | exact nobehind _ (by decide) (by decide) | rfl) : PE X (.Compare a [op] [b] pos) t := fun pins s σ H Q I hw => wpAny_Compare1 (h pins s σ H Q I hw) h1
theorem pt_cmp {op : CmpOp} {t : TE} (h : PC X op a b t) (h1 : behindInMarks op b = false := by first | exact nobehind _ (by decide) (by decide) | rfl) : PT X (.Compare a [op] [b] pos) (tB t) := by
  intro pins s σ H Q I hw
  refine wpAny_isTrue_Compare1 (thn (h pins s σ H _ I hw) fun v s1 h1 => thn h1 fun u s2 h2 => thn h2 fun c s3 ⟨x, H1, I1, r1, q1⟩ => ?_) h1
  obtain ⟨d, rfl, q⟩ := q1
  cases r1
  exact wpAny_truthy_bool ⟨H1, I1, q⟩
theorem pt_val {e : Expr} {t : TE} (h : PE X e t) (he : ∀ whole, isTrue e X.env whole = (do let v ← whole; standAt e.pos; holding [v] (truthy v)) := by intro _; rfl) : PT X e (tB t) := by
  intro pins s σ H Q I hw
  refine isTrue_plain (thn (h pins s σ H _ I hw) fun v s1 ⟨x, H1, I1, r1, q1⟩ => ?_) (he _)
  obtain ⟨d, rfl, q⟩ := q1
  cases r1
  exact wpAny_truthy_bool ⟨H1, I1, q⟩
variable {tA tB' : TT} {rest : List Expr}
def tAnd (t u : TT) : TT := fun σ H Q => t σ H fun c H1 => if c = true then u σ H1 Q else Q false H1
def tOr (t u : TT) : TT := fun σ H Q => t σ H fun c H1 => if c = true then Q true H1 else u σ H1 Q
def tNot (t : TT) : TT := fun σ H Q => t σ H fun c H1 => Q (!c) H1
theorem pw_and1 (ha : PT X a tA) : PW X (.BoolOp .And [a] pos) tA := by
  intro wh pins s σ H Q I h
  refine isTrue_and (thn (ha pins s σ H Q I h) fun c s1 e => ?_)
  cases c with
  | true => exact isTrue_and_nil e
  | false => exact e
theorem pw_or1 (ha : PT X a tA) : PW X (.BoolOp .Or [a] pos) tA := by
  intro wh pins s σ H Q I h
  refine isTrue_or (thn (ha pins s σ H Q I h) fun c s1 e => ?_)
  cases c with
  | false => exact isTrue_or_nil e
  | true => exact e
theorem pw_and (ha : PT X a tA) (hb : PW X (.BoolOp .And (b :: rest) pos) tB') : PW X (.BoolOp .And (a :: b :: rest) pos) (tAnd tA tB') := by
  intro wh pins s σ H Q I h
  refine isTrue_and (thn (ha pins s σ H _ I h) fun c s1 ⟨H1, I1, q1⟩ => ?_)
  cases c with
  | true => exact hb wh pins s1 σ H1 Q I1 q1
  | false => exact ⟨H1, I1, q1⟩
theorem pw_or (ha : PT X a tA) (hb : PW X (.BoolOp .Or (b :: rest) pos) tB') : PW X (.BoolOp .Or (a :: b :: rest) pos) (tOr tA tB') := by
  intro wh pins s σ H Q I h
  refine isTrue_or (thn (ha pins s σ H _ I h) fun c s1 ⟨H1, I1, q1⟩ => ?_)
  cases c with
  | true => exact ⟨H1, I1, q1⟩
  | false => exact hb wh pins s1 σ H1 Q I1 q1
theorem pt_not (ha : PT X a tA) : PT X (.UnaryOp .Not a pos) (tNot tA) := by
  intro pins s σ H Q I h
  exact isTrue_not (ha pins s σ H (fun c H1 => Q (!c) H1) I h)
def tAndV (ta tb : TE) : TE := fun σ H Q => ta σ H fun x H1 => ∃ c, x = .bl c ∧ if c = true then tb σ H1 Q else Q (.bl false) H1
def tOrV (ta tb : TE) : TE := fun σ H Q => ta σ H fun x H1 => ∃ c, x = .bl c ∧ if c = true then Q (.bl true) H1 else tb σ H1 Q
def tNotV (ta : TE) : TE := fun σ H Q => ta σ H fun x H1 => ∃ c, x = .bl c ∧ Q (.bl (!c)) H1
theorem pe_one {op} {t : TE} (h : PE X a t) : PE X (.BoolOp op [a] pos) t := fun pins s σ H Q I hw => BoolOp_one (h pins s σ H Q I hw)
theorem pe_and (ha : PE X a ta) (hb : PE X (.BoolOp .And (b :: rest) pos) tb) : PE X (.BoolOp .And (a :: b :: rest) pos) (tAndV ta tb) := by
  intro pins s σ H Q I h
  refine BoolOp_and (thn (ha pins s σ H _ I h) fun v s1 ⟨x, H1, I1, r1, q1⟩ => ?_)
  obtain ⟨c, rfl, q1⟩ := q1
  cases r1
  refine wpAny_truthy_bool ?_
  cases c with
  | true => exact hb pins s1 σ H1 Q I1 q1
  | false => exact ⟨.bl false, H1, I1, rfl, q1⟩
theorem pe_or (ha : PE X a ta) (hb : PE X (.BoolOp .Or (b :: rest) pos) tb) : PE X (.BoolOp .Or (a :: b :: rest) pos) (tOrV ta tb) := by
  intro pins s σ H Q I h
  refine BoolOp_or (thn (ha pins s σ H _ I h) fun v s1 ⟨x, H1, I1, r1, q1⟩ => ?_)
  obtain ⟨c, rfl, q1⟩ := q1
  cases r1
  refine wpAny_truthy_bool ?_
  cases c with
  | false => exact hb pins s1 σ H1 Q I1 q1
  | true => exact ⟨.bl true, H1, I1, rfl, q1⟩
theorem pe_not (ha : PE X a ta) : PE X (.UnaryOp .Not a pos) (tNotV ta) := by
  intro pins s σ H Q I h
  refine UnaryOp_ (thn (ha pins s σ H _ I h) fun v s1 ⟨x, H1, I1, r1, q1⟩ => ?_)
  obtain ⟨c, rfl, q1⟩ := q1
  cases r1
  exact not_of (wpAny_truthy_bool ⟨.bl (!c), H1, I1, rfl, q1⟩)
def tIf (t : TT) (ta tb : TE) : TE := fun σ H Q => t σ H fun c H1 => if c = true then ta σ H1 Q else tb σ H1 Q
theorem pe_ifExp {c : Expr} (hc : PT X c tA) (ha : PE X a ta) (hb : PE X b tb) : PE X (.IfExp c a b pos) (tIf tA ta tb) := by
  intro pins s σ H Q I h
  refine wpAny_IfExp (thn (hc pins s σ H _ I h) fun d s1 ⟨H1, I1, q1⟩ => ?_)
  cases d with
  | true => exact ha pins s1 σ H1 Q I1 q1
  | false => exact hb pins s1 σ H1 Q I1 q1
end
end L2
namespace L2
open PySem PySem.Spec PyProof.Rows
def SqL (K : PySem.W.Frag) (H : Hp) (a : Addr) (xs : List V) : Prop :=
  Rd H a (.lst xs) ∨
    ∃ (o : Obj) (its : Array Value) (n : Nat), K.lookup a = some o ∧ o.cls = .type "list" ∧ o.dict = none ∧ o.data = .seq its n ∧ its.size ≤ sizeLine ∧ Vals xs its.toList
def SqT (K : PySem.W.Frag) (H : Hp) (a : Addr) (xs : List V) : Prop :=
  Rd H a (.tup xs) ∨
    ∃ (o : Obj) (its : Array Value) (n : Nat), K.lookup a = some o ∧ o.cls = .type "tuple" ∧ o.data = .seq its n ∧ its.size ≤ sizeLine ∧ Vals xs its.toList
def absV : Value → Option V
  | .none => some .non
  | .bool b => some (.bl b)
  | .int i _ => some (.int i)
  | .str x _ => some (.str x)
  | .bytes b _ => some (.byt b)
  | .float b _ => some (.flt b)
  | .ref a => some (.ref a)
  | .type n => some (.ty n)
  | _ => none
theorem RelV.abs {x : V} {u : Value} (r : RelV x u) : absV u = some x := by
  cases x with
  | non => cases r; rfl
  | bl _ => cases r; rfl
  | int _ => obtain ⟨t, rfl⟩ := r; rfl
  | str _ => obtain ⟨t, rfl⟩ := r; rfl
  | byt _ => obtain ⟨t, rfl⟩ := r; rfl
  | flt _ => obtain ⟨t, rfl⟩ := r; rfl
  | ref _ => cases r; rfl
  | ty _ => cases r; rfl
theorem RelV.inj {x y : V} {u : Value} (r : RelV x u) (q : RelV y u) : x = y := Option.some.inj (r.abs.symm.trans q.abs)
theorem Vals.inj : ∀ {xs ys : List V} {us : List Value}, Vals xs us → Vals ys us → xs = ys
  | _, _, _, .nil, .nil => rfl
  | _, _, _, .cons r t, .cons r' t' => by rw [r.inj r', Vals.inj t t']
section
variable {X : Cx} {pins : List (Addr × Obj)} {σ : St} {H : Hp} {s : Shared} {a : Addr} {xs ys : List V}
theorem SqL.of {K : PySem.W.Frag} (h : H a = some (.lst xs)) : SqL K H a xs := .inl (.inl h)
theorem SqT.of {K : PySem.W.Frag} (h : H a = some (.tup xs)) : SqT K H a xs := .inl (.inl h)
theorem Inv.list (I : Inv X pins σ H s) (h : SqL X.K H a xs) : ∃ its : List Value, Vals xs its ∧ PlainL s.heap a its.toArray ∧ xs.length ≤ sizeLine := by
  rcases h with h | ⟨o, its, n, hk, hc, hd, hs, hz, r⟩
  · obtain ⟨z, its, n, r, e⟩ := h.ok I.hok
    exact ⟨its, r, ⟨_, n, e, rfl, rfl, rfl⟩, z⟩
  · refine ⟨its.toList, r, ⟨o, n, I.kIn a o hk, hc, hd, by simpa using hs⟩, ?_⟩
    have e := r.length
    simp only [Array.length_toList] at e
    omega
theorem Inv.tuple (I : Inv X pins σ H s) (h : SqT X.K H a xs) : ∃ its : List Value, Vals xs its ∧ IsTup s.heap a its.toArray ∧ xs.length ≤ sizeLine := by
  rcases h with h | ⟨o, its, n, hk, hc, hs, hz, r⟩
  · obtain ⟨z, its, r, p⟩ := h.ok I.hok
    exact ⟨its, r, p.tup, z⟩
  · refine ⟨its.toList, r, ⟨o, I.kIn a o hk, hc, n, by simpa using hs⟩, ?_⟩
    have e := r.length
    simp only [Array.length_toList] at e
    omega
theorem Inv.list_inj (I : Inv X pins σ H s) (h : SqL X.K H a xs) (h' : SqL X.K H a ys) : xs = ys := by
  obtain ⟨its, r, ⟨o, n, e, _, _, d⟩, _⟩ := I.list h
  obtain ⟨its', r', ⟨o', n', e', _, _, d'⟩, _⟩ := I.list h'
  rw [e] at e'; cases e'
  rw [d] at d'
  injection d' with d1 _
  have : its = its' := by simpa using congrArg Array.toList d1
  subst this
  exact r.inj r'
theorem Inv.tuple_inj (I : Inv X pins σ H s) (h : SqT X.K H a xs) (h' : SqT X.K H a ys) : xs = ys := by
  obtain ⟨its, r, ⟨o, e, _, n, d⟩, _⟩ := I.tuple h
  obtain ⟨its', r', ⟨o', e', _, n', d'⟩, _⟩ := I.tuple h'
  rw [e] at e'; cases e'
  rw [d] at d'
  injection d' with d1 _
  have : its = its' := by simpa using congrArg Array.toList d1
  subst this
  exact r.inj r'
end
abbrev Cx.wish (X : Cx) (E : Value → Shared → Prop) : Cx := { X with xe := E }
abbrev Cx.nox (X : Cx) : Cx := X.wish fun _ _ => False
theorem Cx.Ok.wish {X : Cx} (ok : X.Ok) (E : Value → Shared → Prop) : (X.wish E).Ok :=
  ⟨ok.mod, ok.kind, ok.glob, ok.blt, ok.above, ok.inj, ok.has, ok.cab, ok.hd, ok.frames, ok.stk, ok.exf, ok.bs, ok.bsz, ok.noex, ok.exfs, ok.funs, ok.frf⟩
theorem Cx.Ok.unwish {X : Cx} {E : Value → Shared → Prop} (ok : (X.wish E).Ok) : X.Ok :=
  ⟨ok.mod, ok.kind, ok.glob, ok.blt, ok.above, ok.inj, ok.has, ok.cab, ok.hd, ok.frames, ok.stk, ok.exf, ok.bs, ok.bsz, ok.noex, ok.exfs, ok.funs, ok.frf⟩
section
variable {X : Cx} {pins : List (Addr × Obj)} {σ : St} {H : Hp} {s : Shared} {E : Value → Shared → Prop}
theorem Inv.wish (I : Inv X pins σ H s) (E : Value → Shared → Prop) : Inv (X.wish E) pins σ H s := ⟨I.ok.wish E, I.os, I.bare, I.base, I.loc, I.cell, I.free, I.freeC, I.pin, I.hok, I.len⟩
theorem Inv.unwish (I : Inv (X.wish E) pins σ H s) : Inv X pins σ H s := ⟨I.ok.unwish, I.os, I.bare, I.base, I.loc, I.cell, I.free, I.freeC, I.pin, I.hok, I.len⟩
theorem SP.unwish {D : Ends} {f : Flow} {s' : Shared} (h : SP (X.wish E) pins D f s') : SP X pins D f s' := by
  cases f with
  | next => obtain ⟨σ', H', I, q⟩ := h; exact ⟨σ', H', I.unwish, q⟩
  | brk => obtain ⟨σ', H', I, q⟩ := h; exact ⟨σ', H', I.unwish, q⟩
  | cont => obtain ⟨σ', H', I, q⟩ := h; exact ⟨σ', H', I.unwish, q⟩
  | ret u => obtain ⟨v, σ', H', I, r, q⟩ := h; exact ⟨v, σ', H', I.unwish, r, q⟩
theorem PSs.nox {st : List Stmt} {t : TS} (h : PSs X.nox st t) : PSs X st t := fun pins s σ H D I hw =>
  wpAny_mono (h pins s σ H D (I.wish _) hw) (fun _ _ q => q.unwish) fun _ _ z => False.elim z
end
section
variable {X : Cx} {st : Stmt} {rest : List Stmt} {t u : TS} {e : Expr} {te : TE} {pos : Pos}
def tNext : TS := fun D σ H => D.nx σ H
def tSeq (t u : TS) : TS := fun D σ H => t { D with nx := u D } σ H
theorem pss_nil : PSs X [] tNext := fun _ _ σ H _ I h => wpAny_execs_nil ⟨σ, H, I, h⟩
theorem pss_cons (h1 : PS X st t) (h2 : PSs X rest u) : PSs X (st :: rest) (tSeq t u) := by
  intro pins s σ H D I h
  refine wpAny_execs_cons (thn (h1 pins s σ H { D with nx := u D } I h) fun f s1 q => ?_)
  cases f with
  | next =>
    obtain ⟨σ', H', I', q⟩ := q
    exact h2 pins s1 σ' H' D I' q
  | ret v => exact q
  | brk => exact q
  | cont => exact q
theorem pss_one (h1 : PS X st t) : PSs X [st] t := by
  intro pins s σ H D I h
  refine wpAny_execs_cons (thn (h1 pins s σ H D I h) fun f s1 q => ?_)
  cases f with
  | next => exact wpAny_execs_nil q
  | ret v => exact q
  | brk => exact q
  | cont => exact q
theorem Inv.quiet {pins : List (Addr × Obj)} {σ : St} {H : Hp} {s : Shared} (I : Inv X pins σ H s) : interactive X.env = false := by simp [interactive, I.ok.kind]
def tDrop (te : TE) : TS := fun D σ H => te σ H fun _ H1 => D.nx σ H1
theorem ps_expr (he : PE X e te) (hs : swapsWith e none pos.line X.env = pure false := by rfl) : PS X (.Expr e pos) (tDrop te) := by
  intro pins s σ H D I h
  exact wpAny_Expr_any (thn (he pins s σ H _ I h) fun v s1 ⟨x, H1, I1, r1, q1⟩ => ⟨σ, H1, I1, q1⟩) I.quiet hs
def tRet (te : TE) : TS := fun D σ H => te σ H D.rt
theorem ps_ret (he : PE X e te) : PS X (.Return (some e) pos) (tRet te) := by
  intro pins s σ H D I h
  exact wpAny_Return_some (thn (he pins s σ H _ I h) fun v s1 ⟨x, H1, I1, r1, q1⟩ => ⟨x, σ, H1, I1, r1, q1⟩)
def tIfS (c : TT) (t u : TS) : TS := fun D σ H => c σ H fun b H1 => if b = true then t D σ H1 else u D σ H1
theorem ps_if {c : Expr} {a b : List Stmt} {tc : TT} (hc : PT X c tc) (ha : PSs X a t) (hb : PSs X b u) : PS X (.If c a b pos) (tIfS tc t u) := by
  intro pins s σ H D I h
  refine wpAny_If (thn (hc pins s σ H _ I h) fun d s1 ⟨H1, I1, q1⟩ => ?_)
  cases d with
  | true => exact ha pins s1 σ H1 D I1 q1
  | false => exact hb pins s1 σ H1 D I1 q1
end
abbrev TG := V → St → Hp → (St → Hp → Prop) → Prop
abbrev TGs := List V → St → Hp → (St → Hp → Prop) → Prop
def PG (X : Cx) (target : Expr) (t : TG) : Prop :=
  ∀ (pins : List (Addr × Obj)) (s : Shared) (σ : St) (H : Hp) (v : V) (u : Value) (Q : St → Hp → Prop), Inv X pins σ H s → RelV v u → t v σ H Q →
    wpAny (model X.prog X.w) X.A (assign target X.env u) (fun _ s' => ∃ σ' H', Inv X pins σ' H' s' ∧ Q σ' H') X.xe s
def PGs (X : Cx) (ts : List Expr) (t : TGs) : Prop :=
  ∀ (pins : List (Addr × Obj)) (s : Shared) (σ : St) (H : Hp) (vs : List V) (us : List Value) (Q : St → Hp → Prop), Inv X pins σ H s → Vals vs us → t vs σ H Q →
    wpAny (model X.prog X.w) X.A (assignInOrder ((assignEach ts X.env).map (·.2)) us) (fun _ s' => ∃ σ' H', Inv X pins σ' H' s' ∧ Q σ' H') X.xe s
abbrev TSet := V → V → V → Hp → (Hp → Prop) → Prop
def PSet (X : Cx) (t : TSet) : Prop :=
  ∀ (pins : List (Addr × Obj)) (s : Shared) (σ : St) (H : Hp) (o i v : V) (ov iv u : Value) (Q : Hp → Prop), Inv X pins σ H s → RelV o ov → RelV i iv → RelV v u → t o i v H Q →
    wpAny (model X.prog X.w) X.A (setItem ov iv u) (fun _ s' => ∃ H', Inv X pins σ H' s' ∧ Q H') X.xe s
section
variable {X : Cx} {pos : Pos}
def gName (i : Nat) : TG := fun v σ H Q => Q (σ.set i (some v)) H
theorem pg_name {i : Nat} {x : Str} (hN : X.N.Nodup) (hi : X.N[i]? = some x) (hx : Loc X.env.scope x) (hf : X.fn x = true ∨ X.env.scope.names.lookup x = some .local := by first | exact .inl rfl | exact .inr rfl | assumption) : PG X (.Name x pos) (gName i) := by
  intro pins s σ H v u Q I r h
  exact wpAny_assign_Name (store_ok I hN hi hx r (fun s' I' => ⟨_, H, I', h⟩) hf)
def gNil : TGs := fun vs σ H Q => vs = [] ∧ Q σ H
def gCons (t : TG) (u : TGs) : TGs := fun vs σ H Q => ∃ v r, vs = v :: r ∧ t v σ H fun σ' H' => u r σ' H' Q
theorem pgs_nil : PGs X [] gNil := by
  intro pins s σ H vs us Q I r h
  obtain ⟨e, h⟩ := h
  subst e
  cases r
  exact assignInOrder_nil ⟨σ, H, I, h⟩
theorem pgs_cons {e : Expr} {es : List Expr} {t : TG} {u : TGs} (h1 : PG X e t) (h2 : PGs X es u)
    (hs : (assignEach (e :: es) X.env).map (·.2) = assign e X.env :: (assignEach es X.env).map (·.2) := by rfl) : PGs X (e :: es) (gCons t u) := by
  intro pins s σ H vs us Q I r h
  obtain ⟨v, vr, e1, h⟩ := h
  subst e1
  cases r with
  | cons r rr =>
    rw [hs]
    refine assignInOrder_cons (thn (h1 pins s σ H _ _ _ I r h) fun _ s1 ⟨σ1, H1, I1, q1⟩ => ?_)
    exact h2 pins s1 σ1 H1 _ _ Q I1 rr q1
def gTup (K : PySem.W.Frag) (n : Nat) (t : TGs) : TG := fun v σ H Q => ∃ a xs, v = .ref a ∧ SqT K H a xs ∧ xs.length = n ∧ t xs σ H Q
theorem pg_tup {es : List Expr} {k : Nat} {t : TGs} {n : Nat} (hc : X.calm = true) (h : PGs X es t)
    (hn : (assignEach es X.env).length = n := by rfl) (hst : (assignEach es X.env).findIdx? (·.1) = none := by rfl) : PG X (.Tuple es k pos) (gTup X.K n t) := by
  intro pins s σ H v u Q I r hw
  obtain ⟨a, xs, e1, hq, hl, hw⟩ := hw
  subst e1
  cases r
  obtain ⟨its, rv, ht, hz⟩ := I.tuple hq
  refine assign_Tuple_tuple (I.ok.hd hc) ht (by simp [hn, ← hl, rv.length]) hst fun h' hx => ?_
  have I1 : Inv X pins σ H { s with heap := h' } := I.kept (t' := s.toks) fun b o e => hx b o (Nat.ne_of_lt (Heap.lt_size e)) e
  exact h pins _ σ H xs _ Q I1 (by simpa using rv) hw
def gSub (to ti : TE) (t : TSet) : TG := fun v σ H Q => to σ H fun o H1 => ti σ H1 fun i H2 => t o i v H2 fun H3 => Q σ H3
theorem pg_sub {o i : Expr} {to ti : TE} {t : TSet} (ho : PE X o to) (hi : PE X i ti) (hs : PSet X t)
    (ha : ∀ v, assign (.Subscript o i pos) X.env v = (do
      let ov ← holding [v] (eval o X.env)
      let iv ← holding [v, ov] (eval i X.env)
      standAt pos
      holding [v, ov, iv] (setItem ov iv v)
      release [v, ov, iv] []) := by intro _; rfl) : PG X (.Subscript o i pos) (gSub to ti t) := by
  intro pins s σ H v u Q I r h
  rw [ha]
  refine wpAny_bind (wpAny_holding (thn (ho pins s σ H _ I h) fun ov s1 ⟨x, H1, I1, r1, q1⟩ => ?_))
  refine wpAny_bind (wpAny_holding (thn (hi pins s1 σ H1 _ I1 q1) fun iv s2 ⟨y, H2, I2, r2, q2⟩ => ?_))
  refine wpAny_bind (wpAny_standAt (wpAny_bind (wpAny_holding (thn (hs pins s2 σ H2 x y v ov iv u _ I2 r1 r2 r q2) fun _ s3 ⟨H3, I3, q3⟩ => ?_))))
  exact wpAny_release ⟨σ, H3, I3, q3⟩
def tAsg (te : TE) (g : TG) : TS := fun D σ H => te σ H fun x H1 => g x σ H1 D.nx
theorem ps_asg {tg e : Expr} {te : TE} {g : TG} (he : PE X e te) (hg : PG X tg g) (hs : swapsWithSole [tg] e pos.line X.env = pure false := by rfl) (hw : swappedStores [tg] e X.env = pure none := by rfl)
    (h1 : (assignEach [tg] X.env).map (·.2) = [assign tg X.env] := by rfl) : PS X (.Assign [tg] e pos) (tAsg te g) := by
  intro pins s σ H D I h
  refine wpAny_Assign_stores (thn (he pins s σ H _ I h) fun v s1 ⟨x, H1, I1, r1, q1⟩ => ?_) hs hw
  rw [h1]
  exact thn (hg pins s1 σ H1 x v _ I1 r1 q1) fun _ s2 q => q
theorem ps_set {i : Nat} {x : Str} {e : Expr} {te : TE} {pos' : Pos} (hN : X.N.Nodup) (hi : X.N[i]? = some x) (hx : Loc X.env.scope x) (he : PE X e te) (hs : swapsWith e (some (.Name x pos')) pos.line X.env = pure false := by rfl) (hf : X.fn x = true ∨ X.env.scope.names.lookup x = some .local := by first | exact .inl rfl | exact .inr rfl | assumption) :
    PS X (.Assign [.Name x pos'] e pos) (tAsg te (gName i)) := by
  intro pins s σ H D I h
  refine wpAny_Assign_Name (thn (he pins s σ H _ I h) fun v s1 ⟨y, H1, I1, r1, q1⟩ => ?_) hs
  exact store_ok I1 hN hi hx r1 (fun s2 I2 => ⟨_, H1, I2, q1⟩) hf
end
section
variable {X : Cx} {pos : Pos}
def tWhile (c : TT) (tb : TS) : TS := fun D σ H => ∃ W : Nat → St → Hp → Prop, (∃ m, W m σ H) ∧ ∀ m σ H, W m σ H →
  c σ H fun b H1 => if b = true then ∃ N : St → Hp → Prop, (∀ σ' H', N σ' H' → ∃ m', m' < m ∧ W m' σ' H') ∧ tb { D with nx := N, ct := N, bk := D.nx } σ H1 else D.nx σ H1
theorem ps_while {c : Expr} {body : List Stmt} {tc : TT} {tb : TS} (hp : PassesOwn (model X.prog X.w) X.A X.env X.xe) (hc : PT X c tc) (hb : PSs X body tb) : PS X (.While c body [] pos) (tWhile tc tb) := by
  intro pins s σ H D I h
  obtain ⟨W, ⟨m0, w0⟩, turn⟩ := h
  refine wpAny_While (codeAny_whileLoop (fun n s' => ∃ σ' H', Inv X pins σ' H' s' ∧ W n σ' H') ?_ m0 ⟨σ, H, I, w0⟩)
  rintro n s1 ⟨σ1, H1, I1, w1⟩
  refine wpAny_passesOwn hp (thn (hc pins s1 σ1 H1 _ I1 (turn n σ1 H1 w1)) fun b s2 ⟨H2, I2, q2⟩ => ?_)
  cases b with
  | true =>
    obtain ⟨N, hN, q2⟩ := q2
    rw [if_pos rfl]
    refine wpAny_passesOwn hp (thn (hb pins s2 σ1 H2 _ I2 q2) fun f s3 q3 => ?_)
    cases f with
    | next =>
      obtain ⟨σ3, H3, I3, n3⟩ := q3
      obtain ⟨m', hm, w3⟩ := hN σ3 H3 n3
      exact ⟨m', hm, σ3, H3, I3, w3⟩
    | cont =>
      obtain ⟨σ3, H3, I3, n3⟩ := q3
      obtain ⟨m', hm, w3⟩ := hN σ3 H3 n3
      exact ⟨m', hm, σ3, H3, I3, w3⟩
    | brk => exact q3
    | ret v => exact q3
  | false =>
    rw [if_neg Bool.false_ne_true]
    exact wpAny_execs_nil ⟨σ1, H2, I2, q2⟩
end
structure It where
  go : Nat → Hp → Prop
  yld : Nat → Hp → V → Hp → Prop
  stop : Nat → Hp → Prop
def FpOk (X : Cx) (pins : List (Addr × Obj)) (H : Hp) (b : Addr) : Prop :=
  H b = none ∧ b ≠ X.env.locals ∧ b ∉ X.fs ∧ (b ∈ X.ex ∨ X.s₀.heap.objs.size ≤ b) ∧ (∀ x c, X.env.cells.lookup x = some c → c ≠ b) ∧ ∀ p ∈ X.pn ++ pins, p.1 ≠ b
theorem Inv.fpOk {X : Cx} {pins : List (Addr × Obj)} {σ : St} {H H' : Hp} {s : Shared} {b : Addr} (I : Inv X pins σ H s) (hb : s.heap.objs.size ≤ b) (hn : H' b = none) : FpOk X pins H' b := by
  refine ⟨hn, Nat.ne_of_gt (Nat.lt_of_lt_of_le I.lt hb), I.nofs hb, .inr (Nat.le_trans I.sz hb), fun x c e z => ?_, fun p hp z => ?_⟩
  · obtain ⟨v, q⟩ := I.cell x c e
    exact absurd (Nat.lt_of_lt_of_le q.lt (by rw [z]; exact hb)) (Nat.lt_irrefl _)
  · exact absurd (Nat.lt_of_lt_of_le (Heap.lt_size (I.pin p hp).1) (by rw [z]; exact hb)) (Nat.lt_irrefl _)
structure Turn (P : Program) (w : World) (K : PySem.W.Frag) (tg : Expr) (J : It) (fp : List Addr) (it : Addr) (tn : Nat → Heap → Prop) : Prop where
  mem : it ∈ fp
  obj : ∀ i h, tn i h → ∀ b ∈ fp, ∃ o, h.get? b = some o ∧ ∀ v, o.data ≠ .cell v
  keep : ∀ i h h', tn i h → (∀ b ∈ fp, ∀ o, h.get? b = some o → h'.get? b = some o) → tn i h'
  item : ∀ (X : Cx), X.prog = P → X.w = w → X.K = K → X.calm = true → ∀ (i : Nat) (pins : List (Addr × Obj)) (s : Shared) (σ : St) (H : Hp) (E : Value → Shared → Prop), Inv X pins σ H s → (∀ b ∈ fp, FpOk X pins H b) → tn i s.heap → J.go i H →
    wpAny (model P w) X.A (pyNext (.ref it)) (fun r s1 => ∃ u, r = some u ∧
      wpAny (model P w) X.A (letOwnedTupleGo tg (.ref it) u) (fun _ s2 => ∃ x H', Inv X pins σ H' s2 ∧ RelV x u ∧ J.yld i H x H' ∧ tn (i + 1) s2.heap ∧ ∀ b ∈ fp, H' b = none) E s1) E s
  done : ∀ (X : Cx), X.prog = P → X.w = w → X.K = K → X.calm = true → ∀ (i : Nat) (pins : List (Addr × Obj)) (s : Shared) (σ : St) (H : Hp) (E : Value → Shared → Prop), Inv X pins σ H s → (∀ b ∈ fp, FpOk X pins H b) → tn i s.heap → J.stop i H →
    wpAny (model P w) X.A (pyNext (.ref it)) (fun r s1 => r = none ∧ Inv X pins σ H s1) E s
  self : ∀ (A : Around) (i : Nat) (s : Shared) (Q : Value → Shared → Prop) (E : Value → Shared → Prop), tn i s.heap → Q (.ref it) s → wpAny (model P w) A (pyIter (.ref it)) Q E s
abbrev TI := St → Hp → (It → Hp → Prop) → Prop
def PIE (X : Cx) (pins : List (Addr × Obj)) (σ : St) (tg : Expr) (R : It → Hp → Prop) (itv : Value) (s2 : Shared) : Prop :=
  ∃ (it : Addr) (fp : List Addr) (tn : Nat → Heap → Prop) (J : It) (H' : Hp), itv = .ref it ∧ Inv X pins σ H' s2 ∧ Turn X.prog X.w X.K tg J fp it tn ∧ tn 0 s2.heap ∧ (∀ b ∈ fp, FpOk X pins H' b) ∧ R J H'
def PI (X : Cx) (tg iter : Expr) (wi : TI) : Prop :=
  ∀ (pins : List (Addr × Obj)) (s : Shared) (σ : St) (H : Hp) (R : It → Hp → Prop), Inv X pins σ H s → wi σ H R →
    wpAny (model X.prog X.w) X.A (eval iter X.env) (fun v s1 => wpAny (model X.prog X.w) X.A (pyIter v) (PIE X pins σ tg R) X.xe s1) X.xe s
theorem go_of {M : Model} {A : Around} {E : Value → Shared → Prop} {s : Shared} {tg : Expr} {it : Addr} {u : Value} {o : Obj} {n : String} {vs : Array Value} {Q : Unit → Shared → Prop} (ho : s.heap.get? it = some o) (hc : o.cls = .type n) (hd : o.data = .fields vs)
    (hn : ["enumerate", "zip", "dict_itemiterator", "dict_reverseitemiterator", "odict_iterator", "itertools.zip_longest", "itertools.pairwise"].contains n = false) (hQ : Q () s) : wpAny M A (letOwnedTupleGo tg (.ref it) u) Q E s := by
  unfold letOwnedTupleGo
  cases tg <;> first
    | exact wpAny_pure hQ
    | (cases u <;> first
        | exact wpAny_pure hQ
        | (refine wpAny_bind (wpAny_load ho ?_)
           rw [hc, hd]
           show wpAny M A (if (["enumerate", "zip", "dict_itemiterator", "dict_reverseitemiterator", "odict_iterator", "itertools.zip_longest", "itertools.pairwise"].contains n && vs[0]? == some (rawInt _)) = true then _ else _) Q E s
           rw [if_neg (by intro h; rw [hn, Bool.false_and] at h; cases h)]
           exact wpAny_pure hQ))
def Itl (K : PySem.W.Frag) (a : Addr) : It :=
  ⟨fun i H => ∃ xs x, SqL K H a xs ∧ xs[i]? = some x, fun i H x H' => H' = H ∧ ∀ xs, SqL K H a xs → xs[i]? = some x, fun i H => ∃ xs, SqL K H a xs ∧ xs.length ≤ i⟩
def Itt (K : PySem.W.Frag) (a : Addr) : It :=
  ⟨fun i H => ∃ xs x, SqT K H a xs ∧ xs[i]? = some x, fun i H x H' => H' = H ∧ ∀ xs, SqT K H a xs → xs[i]? = some x, fun i H => ∃ xs, SqT K H a xs ∧ xs.length ≤ i⟩
def Itr (lo : Int) (n : Nat) : It := ⟨fun i _ => i < n, fun i H x H' => H' = H ∧ x = .int (lo + i), fun i _ => n ≤ i⟩
theorem turn_list {P : Program} {w : World} {K : PySem.W.Frag} {tg : Expr} (a it : Addr) : Turn P w K tg (Itl K a) [it] it (fun i h => h.IsListIter it a i) where
  mem := by simp
  obj := fun i h st b hb => by
    have e : b = it := by simpa using hb
    subst e
    obtain ⟨o, e, c, d⟩ := st
    exact ⟨o, e, fun v z => by rw [d] at z; cases z⟩
  keep := fun i h h' st k => st.at fun o e => k it (by simp) o e
  item := by
    intro X hP hw hK hc i pins s σ H E I hf st hg
    subst hP hw hK
    obtain ⟨xs, x, hq, hx⟩ := hg
    obtain ⟨its, rv, p, hz⟩ := I.list hq
    obtain ⟨u, hu, ru⟩ := rv.get hx
    obtain ⟨f0, f1, f2, f3, f4, f5⟩ := hf it (by simp)
    refine wpAny_pyNext_list_item st p.isList (x := u) (by simpa using hu) fun h' st' sb => ?_
    have I1 : Inv X pins σ H { s with heap := h' } := I.turned (t' := s.toks) (fun b o hb e => (sb.2 b hb).trans e) f0 f1 f3 f4 f5
    obtain ⟨o, e, c, d⟩ := id st'
    exact ⟨u, rfl, go_of (s := { s with heap := h' }) e c d (by decide) ⟨x, H, I1, ru, ⟨rfl, fun ys hy => by rw [I.list_inj hy hq]; exact hx⟩, st', fun b hb => (hf b hb).1⟩⟩
  done := by
    intro X hP hw hK hc i pins s σ H E I hf st hg
    subst hP hw hK
    obtain ⟨xs, hq, hx⟩ := hg
    obtain ⟨its, rv, p, hz⟩ := I.list hq
    obtain ⟨f0, f1, f2, f3, f4, f5⟩ := hf it (by simp)
    have hl := rv.length
    exact wpAny_pyNext_list_end (I.ok.hd hc) st p.isList (by simp; omega) fun h' eb => ⟨rfl, I.turned (t' := s.toks) (fun b o hb e => eb b o hb e) f0 f1 f3 f4 f5⟩
  self := fun _ _ _ _ _ st h => wpAny_pyIter_listiter st h
theorem turn_tuple {P : Program} {w : World} {K : PySem.W.Frag} {tg : Expr} (a it : Addr) : Turn P w K tg (Itt K a) [it] it (fun i h => h.IsTupleIter it a i) where
  mem := by simp
  obj := fun i h st b hb => by
    have e : b = it := by simpa using hb
    subst e
    obtain ⟨o, e, c, d⟩ := st
    exact ⟨o, e, fun v z => by rw [d] at z; cases z⟩
  keep := fun i h h' st k => st.at fun o e => k it (by simp) o e
  item := by
    intro X hP hw hK hc i pins s σ H E I hf st hg
    subst hP hw hK
    obtain ⟨xs, x, hq, hx⟩ := hg
    obtain ⟨its, rv, p, hz⟩ := I.tuple hq
    obtain ⟨u, hu, ru⟩ := rv.get hx
    obtain ⟨f0, f1, f2, f3, f4, f5⟩ := hf it (by simp)
    refine wpAny_pyNext_tuple_item st (show s.heap.IsTuple a its.toArray from p) (x := u) (by simpa using hu) fun h' st' sb => ?_
    have I1 : Inv X pins σ H { s with heap := h' } := I.turned (t' := s.toks) (fun b o hb e => (sb.2 b hb).trans e) f0 f1 f3 f4 f5
    obtain ⟨o, e, c, d⟩ := id st'
    exact ⟨u, rfl, go_of (s := { s with heap := h' }) e c d (by decide) ⟨x, H, I1, ru, ⟨rfl, fun ys hy => by rw [I.tuple_inj hy hq]; exact hx⟩, st', fun b hb => (hf b hb).1⟩⟩
  done := by
    intro X hP hw hK hc i pins s σ H E I hf st hg
    subst hP hw hK
    obtain ⟨xs, hq, hx⟩ := hg
    obtain ⟨its, rv, p, hz⟩ := I.tuple hq
    obtain ⟨f0, f1, f2, f3, f4, f5⟩ := hf it (by simp)
    have hl := rv.length
    exact wpAny_pyNext_tuple_end (I.ok.hd hc) st (show s.heap.IsTuple a its.toArray from p) (by simp; omega) fun h' eb => ⟨rfl, I.turned (t' := s.toks) (fun b o hb e => eb b o hb e) f0 f1 f3 f4 f5⟩
  self := fun _ _ _ _ _ st h => wpAny_pyIter_tupleiter st h
theorem turn_range {P : Program} {w : World} {K : PySem.W.Frag} {tg : Expr} (it : Addr) (lo : Int) (n : Nat) : Turn P w K tg (Itr lo n) [it] it (fun i h => IsRangeIter h it (lo + (i : Nat) * 1) ((n : Int) - (i : Nat)) 1) where
  mem := by simp
  obj := fun i h st b hb => by
    have e : b = it := by simpa using hb
    subst e
    exact ⟨_, st, fun v z => by
      have z' : Data.fields _ = Data.cell v := z
      cases z'⟩
  keep := fun i h h' st k => k it (by simp) _ st
  item := by
    intro X hP hw hK hc i pins s σ H E I hf st hg
    subst hP hw hK
    obtain ⟨f0, f1, f2, f3, f4, f5⟩ := hf it (by simp)
    have W := Walks.range (prog := X.prog) (w := X.w) (I.ok.hd hc) it lo 1 n
    refine W.item i s _ _ hg st fun v h' tk hv st' kk => ?_
    obtain ⟨t, rfl⟩ := hv
    have I1 : Inv X pins σ H { s with heap := h', toks := tk } := I.turned (fun b o hb e => kk b o (by simpa using hb) e) f0 f1 f3 f4 f5
    refine ⟨_, rfl, go_of (s := { s with heap := h', toks := tk }) (n := "range_iterator") st' rfl rfl (by decide) ⟨.int (lo + i), H, I1, ⟨t, ?_⟩, ⟨rfl, rfl⟩, st', fun b hb => (hf b hb).1⟩⟩
    rw [Int.mul_one]
  done := by
    intro X hP hw hK hc i pins s σ H E I hf st hg
    subst hP hw hK
    obtain ⟨f0, f1, f2, f3, f4, f5⟩ := hf it (by simp)
    exact wpAny_pyNext_range_end (I.ok.hd hc) st (by have : n ≤ i := hg; omega) fun h' eb => ⟨rfl, I.turned (t' := s.toks) (fun b o hb e => eb b o hb e) f0 f1 f3 f4 f5⟩
  self := fun _ _ _ _ _ st h => wpAny_pyIter_rangeiter st h
end L2
namespace L2
open PySem PySem.Spec PyProof.Rows
section
variable {X : Cx} {tg : Expr}
def iList (K : PySem.W.Frag) (tl : TE) : TI := fun σ H R => tl σ H fun x H1 => ∃ a, x = .ref a ∧ (∃ xs, SqL K H1 a xs) ∧ R (Itl K a) H1
def iTup (K : PySem.W.Frag) (tl : TE) : TI := fun σ H R => tl σ H fun x H1 => ∃ a, x = .ref a ∧ (∃ xs, SqT K H1 a xs) ∧ R (Itt K a) H1
theorem pi_list {l : Expr} {tl : TE} (hl : PE X l tl) : PI X tg l (iList X.K tl) := by
  intro pins s σ H R I h
  refine thn (hl pins s σ H _ I h) fun v s1 ⟨x, H1, I1, r1, q1⟩ => ?_
  obtain ⟨a, e, ⟨xs, hq⟩, q⟩ := q1
  subst e
  cases r1
  obtain ⟨its, rv, p, hz⟩ := I1.list hq
  refine wpAny_pyIter_list p.isList ?_
  refine ⟨s1.heap.objs.size, [s1.heap.objs.size], _, _, H1, rfl, I1.kept (t' := s1.toks) fun b o e => Heap.get?_push_of_some _ e, turn_list a _, ⟨_, Heap.get?_push_size _ rfl, rfl, rfl⟩, fun b hb => ?_, q⟩
  have e : b = s1.heap.objs.size := by simpa using hb
  subst e
  exact I1.fpOk (Nat.le_refl _) (I1.hok.fresh (Nat.le_refl _))
theorem pi_tup {l : Expr} {tl : TE} (hl : PE X l tl) : PI X tg l (iTup X.K tl) := by
  intro pins s σ H R I h
  refine thn (hl pins s σ H _ I h) fun v s1 ⟨x, H1, I1, r1, q1⟩ => ?_
  obtain ⟨a, e, ⟨xs, hq⟩, q⟩ := q1
  subst e
  cases r1
  obtain ⟨its, rv, p, hz⟩ := I1.tuple hq
  refine wpAny_pyIter_tuple (show s1.heap.IsTuple a its.toArray from p) ?_
  refine ⟨s1.heap.objs.size, [s1.heap.objs.size], _, _, H1, rfl, I1.kept (t' := s1.toks) fun b o e => Heap.get?_push_of_some _ e, turn_tuple a _, ⟨_, Heap.get?_push_size _ rfl, rfl, rfl⟩, fun b hb => ?_, q⟩
  have e : b = s1.heap.objs.size := by simpa using hb
  subst e
  exact I1.fpOk (Nat.le_refl _) (I1.hok.fresh (Nat.le_refl _))
theorem range_it {pins : List (Addr × Obj)} {σ : St} {H : Hp} {s : Shared} {R : It → Hp → Prop} {E : Value → Shared → Prop} {lo hi : Int} {t u v : Tok} {tk : Nat} (I : Inv X pins σ H s) (h1 : -(2 ^ 62) ≤ lo) (h2 : lo < 2 ^ 62) (h3 : -(2 ^ 62) ≤ hi) (h4 : hi < 2 ^ 62)
    (q : R (Itr lo (hi - lo).toNat) H) : wpAny (model X.prog X.w) X.A (pyIter (.ref s.heap.objs.size)) (PIE X pins σ tg R) E { s with heap := s.heap.push { cls := .type "range", data := .fields #[.int lo t, .int hi u, .int 1 v] }, toks := tk } := by
  refine wpAny_pyIter_range (IsRange.new ..) (small_one h1 h2 h3 h4) ?_
  have I1 : Inv X pins σ H { s with heap := s.heap.push { cls := .type "range", data := .fields #[.int lo t, .int hi u, .int 1 v] }, toks := tk } := I.kept fun b o e => Heap.get?_push_of_some _ e
  refine ⟨(s.heap.push { cls := .type "range", data := .fields #[.int lo t, .int hi u, .int 1 v] }).objs.size, [(s.heap.push { cls := .type "range", data := .fields #[.int lo t, .int hi u, .int 1 v] }).objs.size], _, _, H, rfl,
    I1.kept (t' := tk) fun b o e => Heap.get?_push_of_some _ e, turn_range _ lo (hi - lo).toNat, ?_, fun b hb => ?_, q⟩
  · have e1 : lo + ((0 : Nat) : Int) * 1 = lo := by simp
    have e2 : (((hi - lo).toNat : Nat) : Int) - ((0 : Nat) : Int) = Builtin.Range.rangeSize lo hi 1 := by rw [rangeSize_one]; split <;> omega
    show IsRangeIter _ _ (lo + ((0 : Nat) : Int) * 1) ((((hi - lo).toNat : Nat) : Int) - ((0 : Nat) : Int)) 1
    rw [e1, e2]
    exact Heap.get?_push_size _ rfl
  · have e : b = (s.heap.push { cls := .type "range", data := .fields #[.int lo t, .int hi u, .int 1 v] }).objs.size := by simpa using hb
    subst e
    exact I1.fpOk (Nat.le_refl _) (I1.hok.fresh (Nat.le_refl _))
def iRng1 (ta : TA) : TI := fun σ H R => ta σ H fun vs H1 => ∃ j : Int, vs = [.int j] ∧ -(2 ^ 62) ≤ j ∧ j < 2 ^ 62 ∧ R (Itr 0 j.toNat) H1
theorem pi_range1 {a : Expr} {ta : TA} {p pos : Pos} (hg : Gl X "range") (hm : X.mg "range" = none) (ha : PA X [a] ta) (hs : starEach [a] X.env = [(false, eval a X.env)] := by rfl) : PI X tg (.Call (.Name "range" p) [a] [] pos) (iRng1 ta) := by
  intro pins s σ H R I h
  refine Call_ (ld_blt I hg hm boot_range (PyProof.Rows.callWith_type1 (thn (ha pos pins s σ H _ I h) fun us s1 ⟨vs, H1, I1, r1, q1⟩ => ?_) hs rfl))
  obtain ⟨j, e, q1, q2, q⟩ := q1
  subst e
  cases r1 with
  | cons r rr =>
    cases rr
    obtain ⟨t, rfl⟩ := r
    exact call_range_1 (range_it I1 (by omega) (by omega) q1 q2 (by simpa using q))
def tFor (wi : TI) (g : TG) (tb : TS) : TS := fun D σ H => wi σ H fun J H1 => ∃ W : Nat → Nat → St → Hp → Prop, (∃ m, W 0 m σ H1) ∧ ∀ i m σ H, W i m σ H →
  (J.stop i H ∧ D.nx σ H) ∨ (J.go i H ∧ ∃ N : St → Hp → Prop, (∀ σ' H', N σ' H' → ∃ m', m' < m ∧ W (i + 1) m' σ' H') ∧ ∀ x H', J.yld i H x H' → g x σ H' fun σ2 H2 => tb { D with nx := N, ct := N, bk := D.nx } σ2 H2)
def pinsAt (fp : List Addr) (h : Heap) : List (Addr × Obj) := fp.filterMap fun b => (h.get? b).map fun o => (b, o)
theorem mem_pinsAt {fp : List Addr} {h : Heap} {b : Addr} {o : Obj} (hb : b ∈ fp) (e : h.get? b = some o) : (b, o) ∈ pinsAt fp h := List.mem_filterMap.mpr ⟨b, hb, by rw [e]; rfl⟩
theorem of_pinsAt {fp : List Addr} {h : Heap} {p : Addr × Obj} (hp : p ∈ pinsAt fp h) : p.1 ∈ fp ∧ h.get? p.1 = some p.2 := by
  obtain ⟨b, hb, e⟩ := List.mem_filterMap.mp hp
  cases q : h.get? b with
  | none => rw [q] at e; cases e
  | some o =>
    rw [q] at e
    have e' : (b, o) = p := Option.some.inj e
    subst e'
    exact ⟨hb, q⟩
theorem Inv.pinned {pins : List (Addr × Obj)} {σ : St} {H : Hp} {s : Shared} {fp : List Addr} (I : Inv X pins σ H s) (hf : ∀ b ∈ fp, FpOk X pins H b) (ho : ∀ b ∈ fp, ∃ o, s.heap.get? b = some o ∧ ∀ v, o.data ≠ .cell v) : Inv X (pins ++ pinsAt fp s.heap) σ H s :=
  I.pins_of fun p hp => (List.mem_append.mp hp).elim (fun z => I.pin p (List.mem_append_right _ z)) fun z => by
    obtain ⟨hb, e⟩ := of_pinsAt z
    obtain ⟨f0, f1, f2, _⟩ := hf p.1 hb
    obtain ⟨o, e', d⟩ := ho p.1 hb
    rw [e] at e'; cases e'
    exact ⟨e, f0, f1, f2, d⟩
theorem Inv.unpinned {pins pl : List (Addr × Obj)} {σ : St} {H : Hp} {s : Shared} (I : Inv X (pins ++ pl) σ H s) : Inv X pins σ H s := I.pins_of fun p hp => I.pin p (List.mem_append_right _ (List.mem_append_left _ hp))
theorem ps_for {iter : Expr} {body : List Stmt} {wi : TI} {g : TG} {tb : TS} {pos : Pos} (hp : PassesOwn (model X.prog X.w) X.A X.env X.xe) (hc : X.calm = true) (hi : PI X tg iter wi) (hg : PG X tg g) (hb : PSs X body tb)
    (hs : ∀ x, foldedSetIterable iter X.env x = pure x := by intro _; rfl) : PS X (.For tg iter body [] pos) (tFor wi g tb) := by
  intro pins s σ H D I h
  refine wpAny_For (thn (hi pins s σ H _ I h) fun v s1 h1 => thn h1 fun itv s2 h2 => ?_) hs
  obtain ⟨it, fp, tn, J, H2, e, I2, T, st2, f2, W, ⟨m0, w0⟩, turn⟩ := h2
  subst e
  -- what stays true of the iterator's objects through the loop
  have stat : ∀ {H' : Hp}, (∀ b ∈ fp, H' b = none) → ∀ b ∈ fp, FpOk X pins H' b := fun hn b hb => ⟨hn b hb, (f2 b hb).2⟩
  refine codeAny_forLoop_any (fun n s' => ∃ i σ' H', Inv X pins σ' H' s' ∧ tn i s'.heap ∧ (∀ b ∈ fp, H' b = none) ∧ W i n σ' H') ?_ m0 ⟨0, σ, H2, I2, st2, fun b hb => (f2 b hb).1, w0⟩
  rintro n s3 ⟨i, σ3, H3, I3, st3, fr3, w3⟩
  rcases turn i n σ3 H3 w3 with ⟨stop, qn⟩ | ⟨go, N, hN, step⟩
  · refine wpAny_passesOwn hp (thn (T.done X rfl rfl rfl hc i pins s3 σ3 H3 X.xe I3 (stat fr3) st3 stop) fun r s4 ⟨hr, I4⟩ => ?_)
    subst hr
    exact wpAny_execs_nil ⟨σ3, H3, I4, qn⟩
  · refine wpAny_passesOwn hp (thn (T.item X rfl rfl rfl hc i pins s3 σ3 H3 X.xe I3 (stat fr3) st3 go) fun r s4 ⟨u, hr, h4⟩ => ?_)
    subst hr
    refine wpAny_passesOwn hp (thn h4 fun _ s5 ⟨x, H5, I5, r5, y5, st5, fr5⟩ => ?_)
    have I5' := I5.pinned (stat fr5) (T.obj _ _ st5)
    refine wpAny_passesOwn hp (thn (hg _ s5 σ3 H5 x u _ I5' r5 (step x H5 y5)) fun _ s6 ⟨σ6, H6, I6, q6⟩ => ?_)
    refine wpAny_passesOwn hp (thn (hb _ s6 σ6 H6 _ I6 q6) fun f s7 q7 => ?_)
    have again : ∀ {σ7 : St} {H7 : Hp}, Inv X (pins ++ pinsAt fp s5.heap) σ7 H7 s7 → N σ7 H7 → ∃ m, m < n ∧ ∃ i σ' H', Inv X pins σ' H' s7 ∧ tn i s7.heap ∧ (∀ b ∈ fp, H' b = none) ∧ W i m σ' H' := fun {σ7 H7} I7 n7 => by
      obtain ⟨m', hm, w7⟩ := hN σ7 H7 n7
      refine ⟨m', hm, i + 1, σ7, H7, I7.unpinned, T.keep _ _ _ st5 fun b hb o e => (I7.pin (b, o) (List.mem_append_right _ (List.mem_append_right _ (mem_pinsAt hb e)))).1, fun b hb => ?_, w7⟩
      obtain ⟨o, e, d⟩ := T.obj _ _ st5 b hb
      exact (I7.pin (b, o) (List.mem_append_right _ (List.mem_append_right _ (mem_pinsAt hb e)))).2.1
    cases f with
    | next => obtain ⟨σ7, H7, I7, n7⟩ := q7; exact again I7 n7
    | cont => obtain ⟨σ7, H7, I7, n7⟩ := q7; exact again I7 n7
    | brk => obtain ⟨σ7, H7, I7, q7⟩ := q7; exact ⟨σ7, H7, I7.unpinned, q7⟩
    | ret v => obtain ⟨x7, σ7, H7, I7, r7, q7⟩ := q7; exact ⟨x7, σ7, H7, I7.unpinned, r7, q7⟩
end
theorem for_list {K : PySem.W.Frag} {a : Addr} {xs : List V} {g : TG} {tb : TS} {D : Ends} {σ : St} {H : Hp} (Pv : Nat → St → Hp → Prop) (h0 : Pv 0 σ H) (hl : ∀ i σ H, i ≤ xs.length → Pv i σ H → SqL K H a xs)
    (hs : ∀ i x σ H, xs[i]? = some x → Pv i σ H → g x σ H fun σ2 H2 => tb { D with nx := Pv (i + 1), ct := Pv (i + 1), bk := D.nx } σ2 H2) (hd : ∀ σ H, Pv xs.length σ H → D.nx σ H) :
    ∃ W : Nat → Nat → St → Hp → Prop, (∃ m, W 0 m σ H) ∧ ∀ i m σ H, W i m σ H →
      ((Itl K a).stop i H ∧ D.nx σ H) ∨ ((Itl K a).go i H ∧ ∃ N : St → Hp → Prop, (∀ σ' H', N σ' H' → ∃ m', m' < m ∧ W (i + 1) m' σ' H') ∧ ∀ x H', (Itl K a).yld i H x H' → g x σ H' fun σ2 H2 => tb { D with nx := N, ct := N, bk := D.nx } σ2 H2) := by
  refine ⟨fun i m σ H => m = xs.length - i ∧ i ≤ xs.length ∧ Pv i σ H, ⟨xs.length, by simp, Nat.zero_le _, h0⟩, ?_⟩
  rintro i m σ H ⟨rfl, hi, p⟩
  have q := hl i σ H hi p
  by_cases hlt : i < xs.length
  · refine .inr ⟨⟨xs, xs[i], q, by simp [hlt]⟩, Pv (i + 1), fun σ' H' p' => ⟨xs.length - (i + 1), by omega, rfl, hlt, p'⟩, fun x H' y => ?_⟩
    obtain ⟨e, y⟩ := y
    subst e
    exact hs i x σ _ (y xs q) p
  · have e : i = xs.length := by omega
    subst e
    exact .inl ⟨⟨xs, q, Nat.le_refl _⟩, hd σ H p⟩
theorem for_range {lo : Int} {n : Nat} {g : TG} {tb : TS} {D : Ends} {σ : St} {H : Hp} (Pv : Nat → St → Hp → Prop) (h0 : Pv 0 σ H)
    (hs : ∀ i σ H, i < n → Pv i σ H → g (.int (lo + i)) σ H fun σ2 H2 => tb { D with nx := Pv (i + 1), ct := Pv (i + 1), bk := D.nx } σ2 H2) (hd : ∀ σ H, Pv n σ H → D.nx σ H) :
    ∃ W : Nat → Nat → St → Hp → Prop, (∃ m, W 0 m σ H) ∧ ∀ i m σ H, W i m σ H →
      ((Itr lo n).stop i H ∧ D.nx σ H) ∨ ((Itr lo n).go i H ∧ ∃ N : St → Hp → Prop, (∀ σ' H', N σ' H' → ∃ m', m' < m ∧ W (i + 1) m' σ' H') ∧ ∀ x H', (Itr lo n).yld i H x H' → g x σ H' fun σ2 H2 => tb { D with nx := N, ct := N, bk := D.nx } σ2 H2) := by
  refine ⟨fun i m σ H => m = n - i ∧ i ≤ n ∧ Pv i σ H, ⟨n, by simp, Nat.zero_le _, h0⟩, ?_⟩
  rintro i m σ H ⟨rfl, hi, p⟩
  by_cases hlt : i < n
  · refine .inr ⟨hlt, Pv (i + 1), fun σ' H' p' => ⟨n - (i + 1), by omega, rfl, hlt, p'⟩, fun x H' y => ?_⟩
    obtain ⟨e, y⟩ := y
    subst e y
    exact hs i σ _ hlt p
  · have e : i = n := by omega
    subst e
    exact .inl ⟨Nat.le_refl _, hd σ H p⟩
end L2
namespace L2
open PySem PySem.Spec PyProof.Rows
abbrev R2 := V → V → Hp → VK → Prop
def OpR (X : Cx) (f : Value → Value → Sem Value) (r : R2) : Prop :=
  ∀ (pins : List (Addr × Obj)) (s : Shared) (σ : St) (H : Hp) (x y : V) (v u : Value) (Q : VK), Inv X pins σ H s → RelV x v → RelV y u → r x y H Q →
    wpAny (model X.prog X.w) X.A (f v u) (EP X pins σ Q) X.xe s
def UnR (X : Cx) (f : Value → Sem Value) (r : V → Hp → VK → Prop) : Prop :=
  ∀ (pins : List (Addr × Obj)) (s : Shared) (σ : St) (H : Hp) (x : V) (v : Value) (Q : VK), Inv X pins σ H s → RelV x v → r x H Q →
    wpAny (model X.prog X.w) X.A (f v) (EP X pins σ Q) X.xe s
def CallR (X : Cx) (f : Value) (r : List V → Hp → VK → Prop) : Prop :=
  ∀ (pins : List (Addr × Obj)) (s : Shared) (σ : St) (H : Hp) (xs : List V) (us : List Value) (Q : VK), Inv X pins σ H s → Vals xs us → r xs H Q →
    wpAny (model X.prog X.w) X.A (call f us) (EP X pins σ Q) X.xe s
def TruR (X : Cx) (r : V → Hp → (Bool → Hp → Prop) → Prop) : Prop :=
  ∀ (pins : List (Addr × Obj)) (s : Shared) (σ : St) (H : Hp) (x : V) (v : Value) (Q : Bool → Hp → Prop), Inv X pins σ H s → RelV x v → r x H Q →
    wpAny (model X.prog X.w) X.A (truthy v) (TP X pins σ Q) X.xe s
def tOp (r : R2) (ta tb : TE) : TE := fun σ H Q => ta σ H fun x H1 => tb σ H1 fun y H2 => r x y H2 Q
def tUn (r : V → Hp → VK → Prop) (ta : TE) : TE := fun σ H Q => ta σ H fun x H1 => r x H1 Q
def rI (C : Int → Int → Prop) (g : Int → Int → V) : R2 := fun x y H Q => ∃ i j, x = .int i ∧ y = .int j ∧ C i j ∧ Q (g i j) H
def rI0 (g : Int → Int → V) : R2 := fun x y H Q => ∃ i j, x = .int i ∧ y = .int j ∧ Q (g i j) H
def rU (g : Int → V) : V → Hp → VK → Prop := fun x H Q => ∃ i, x = .int i ∧ Q (g i) H
section
variable {X : Cx} {a b c : Expr} {ta tb tc : TE} {pos : Pos}
theorem binT (ha : PE X a ta) (hb : PE X b tb) {pins : List (Addr × Obj)} {s : Shared} {σ : St} {H : Hp} {R : V → V → Hp → Prop} (I : Inv X pins σ H s)
    (h : ta σ H fun x H1 => tb σ H1 fun y H2 => R x y H2) {Q : Value → Shared → Prop} {f : Value → Value → Sem Value}
    (hf : ∀ v u s2 x y H2, Inv X pins σ H2 s2 → RelV x v → RelV y u → R x y H2 → wpAny (model X.prog X.w) X.A (f v u) Q X.xe s2) :
    wpAny (model X.prog X.w) X.A (eval a X.env) (fun v s₁ => wpAny (model X.prog X.w) X.A (eval b X.env) (fun u s₂ => wpAny (model X.prog X.w) X.A (f v u) Q X.xe s₂) X.xe s₁) X.xe s := by
  refine thn (ha pins s σ H _ I h) fun v s1 ⟨x, H1, I1, r1, q1⟩ => ?_
  refine thn (hb pins s1 σ H1 _ I1 q1) fun u s2 ⟨y, H2, I2, r2, q2⟩ => ?_
  exact hf v u s2 x y H2 I2 r1 r2 q2
theorem pe_op {op : Operator} {r : R2} (ho : OpR X (binaryOp op) r) (ha : PE X a ta) (hb : PE X b tb) : PE X (.BinOp a op b pos) (tOp r ta tb) := by
  intro pins s σ H Q I h
  exact wpAny_BinOp (binT ha hb I h fun v u s2 x y H2 I2 rx ry q => ho pins s2 σ H2 x y v u Q I2 rx ry q)
theorem pe_un {op : UnaryOp} {r : V → Hp → VK → Prop} (ho : UnR X (unaryOp op) r) (ha : PE X a ta) : PE X (.UnaryOp op a pos) (tUn r ta) := by
  intro pins s σ H Q I h
  exact UnaryOp_ (thn (ha pins s σ H _ I h) fun v s1 ⟨x, H1, I1, r1, q1⟩ => ho pins s1 σ H1 x v Q I1 r1 q1)
theorem opI {f : Value → Value → Sem Value} {C : Int → Int → Prop} {g : Int → Int → Int}
    (rule : ∀ (i j : Int) (t u : Tok) (s : Shared) (Q : Value → Shared → Prop) (E : Value → Shared → Prop), C i j → Q (.int (g i j) s.toks) { s with toks := s.toks + 1 } → wpAny (model X.prog X.w) X.A (f (.int i t) (.int j u)) Q E s) :
    OpR X f (rI C fun i j => .int (g i j)) := by
  intro pins s σ H x y v u Q I rx ry h
  obtain ⟨i, j, rfl, rfl, hc, q⟩ := h
  obtain ⟨t, rfl⟩ := rx
  obtain ⟨t', rfl⟩ := ry
  exact rule i j t t' s _ _ hc ⟨.int (g i j), H, I.tok _, ⟨_, rfl⟩, q⟩
theorem opI0 {f : Value → Value → Sem Value} {g : Int → Int → Int}
    (rule : ∀ (i j : Int) (t u : Tok) (s : Shared) (Q : Value → Shared → Prop) (E : Value → Shared → Prop), Q (.int (g i j) s.toks) { s with toks := s.toks + 1 } → wpAny (model X.prog X.w) X.A (f (.int i t) (.int j u)) Q E s) :
    OpR X f (rI0 fun i j => .int (g i j)) := by
  intro pins s σ H x y v u Q I rx ry h
  obtain ⟨i, j, rfl, rfl, q⟩ := h
  obtain ⟨t, rfl⟩ := rx
  obtain ⟨t', rfl⟩ := ry
  exact rule i j t t' s _ _ ⟨.int (g i j), H, I.tok _, ⟨_, rfl⟩, q⟩
theorem opB0 {f : Value → Value → Sem Value} {g : Int → Int → Bool}
    (rule : ∀ (i j : Int) (t u : Tok) (s : Shared) (Q : Value → Shared → Prop) (E : Value → Shared → Prop), Q (.bool (g i j)) s → wpAny (model X.prog X.w) X.A (f (.int i t) (.int j u)) Q E s) :
    OpR X f (rI0 fun i j => .bl (g i j)) := by
  intro pins s σ H x y v u Q I rx ry h
  obtain ⟨i, j, rfl, rfl, q⟩ := h
  obtain ⟨t, rfl⟩ := rx
  obtain ⟨t', rfl⟩ := ry
  exact rule i j t t' s _ _ ⟨.bl (g i j), H, I, rfl, q⟩
def CMul (i j : Int) : Prop := (-(2 ^ 64) < i ∧ i < 2 ^ 64) ∨ (-(2 ^ 64) < j ∧ j < 2 ^ 64)
theorem CMul.ok {i j : Int} (h : CMul i j) : IntMulOk i j := by
  rcases h with ⟨h1, h2⟩ | ⟨h1, h2⟩
  · exact .of_left (intBits_le_64 h1 h2)
  · exact .of_right (intBits_le_64 h1 h2)
theorem op_add : OpR X (binaryOp .Add) (rI0 fun i j => .int (i + j)) := opI0 fun _ _ _ _ _ _ _ q => add_int q
theorem op_sub : OpR X (binaryOp .Sub) (rI0 fun i j => .int (i - j)) := opI0 fun _ _ _ _ _ _ _ q => sub_int q
theorem op_mul : OpR X (binaryOp .Mult) (rI CMul fun i j => .int (i * j)) := opI fun _ _ _ _ _ _ _ hc q => mul_int q hc.ok
theorem op_mod : OpR X (binaryOp .Mod) (rI (fun _ j => 0 < j) fun i j => .int (i % j)) := opI fun i j _ _ _ _ _ hc q => by
  have h1 : (0 : Int) < j := hc
  exact mod_int' (by omega) (by rw [Int.fmod_eq_emod_of_nonneg i (by omega)]; exact q)
theorem unI {f : Value → Sem Value} {g : Int → Int}
    (rule : ∀ (i : Int) (t : Tok) (s : Shared) (Q : Value → Shared → Prop) (E : Value → Shared → Prop), Q (.int (g i) s.toks) { s with toks := s.toks + 1 } → wpAny (model X.prog X.w) X.A (f (.int i t)) Q E s) :
    UnR X f (rU fun i => .int (g i)) := by
  intro pins s σ H x v Q I rx h
  obtain ⟨i, rfl, q⟩ := h
  obtain ⟨t, rfl⟩ := rx
  exact rule i t s _ _ ⟨.int (g i), H, I.tok _, ⟨_, rfl⟩, q⟩
theorem un_neg : UnR X (unaryOp .USub) (rU fun i => .int (-i)) := unI fun _ _ _ _ _ q => neg_int q
end
def scal : V → V → Bool
  | .non, .non => true | .non, .int _ => true | .int _, .non => true | .non, .bl _ => true | .bl _, .non => true | .non, .str _ => true | .str _, .non => true
  | .int _, .int _ => true | .bl _, .bl _ => true | .str _, .str _ => true | .byt _, .byt _ => true
  | .int _, .str _ => true | .str _, .int _ => true | .bl _, .str _ => true | .str _, .bl _ => true
  | _, _ => false
def rEq : R2 := fun x y H Q => scal x y = true ∧ Q (.bl (decide (x = y))) H
def rNe : R2 := fun x y H Q => scal x y = true ∧ Q (.bl (!decide (x = y))) H
theorem dec_int {i j : Int} : decide (V.int i = V.int j) = (i == j) := by
  rw [Bool.eq_iff_iff]
  simp
theorem dec_bl {i j : Bool} : decide (V.bl i = V.bl j) = (i == j) := by
  rw [Bool.eq_iff_iff]
  simp
theorem dec_str {i j : Str} : decide (V.str i = V.str j) = (i == j) := by
  rw [Bool.eq_iff_iff]
  simp
theorem dec_byt {i j : Array UInt8} : decide (V.byt i = V.byt j) = (i.toList == j.toList) := by
  rw [Bool.eq_iff_iff]
  cases i
  cases j
  simp
section
variable {X : Cx} {a b c : Expr} {ta tb tc : TE} {pos : Pos}
theorem fin_bl {pins : List (Addr × Obj)} {σ : St} {H : Hp} {s : Shared} {Q : VK} {k k' : Bool} (I : Inv X pins σ H s) (q : Q (.bl k) H) (e : k = k') : EP X pins σ Q (.bool k') s := by
  subst e
  exact ⟨.bl k, H, I, rfl, q⟩
theorem op_eq : OpR X (compareOp .Eq) rEq := by
  intro pins s σ H x y v u Q I rx ry h
  obtain ⟨hs, q⟩ := h
  cases x with
  | non =>
    cases rx
    cases y with
    | non => cases ry; exact PySem.EqNone.eq_none_none (fin_bl I q (by simp))
    | bl j => cases ry; exact PySem.EqNone.eq_none_bool (fin_bl I q (by simp))
    | int j => obtain ⟨t', rfl⟩ := ry; exact PySem.EqNone.eq_none_int (fin_bl I q (by simp))
    | str j => obtain ⟨t', rfl⟩ := ry; exact PySem.EqNone.eq_none_str (fin_bl I q (by simp))
    | _ => exact absurd (show false = true from hs) Bool.false_ne_true
  | bl i =>
    cases rx
    cases y with
    | non => cases ry; exact PySem.EqNone.eq_bool_none (fin_bl I q (by simp))
    | bl j => cases ry; exact eq_bool (fin_bl I q dec_bl)
    | str j => obtain ⟨t', rfl⟩ := ry; exact PySem.EqMixed.eq_bool_str (fin_bl I q (by simp))
    | _ => exact absurd (show false = true from hs) Bool.false_ne_true
  | int i =>
    obtain ⟨t, rfl⟩ := rx
    cases y with
    | non => cases ry; exact PySem.EqNone.eq_int_none (fin_bl I q (by simp))
    | int j => obtain ⟨t', rfl⟩ := ry; exact eq_int (fin_bl I q dec_int)
    | str j => obtain ⟨t', rfl⟩ := ry; exact PySem.EqMixed.eq_int_str (fin_bl I q (by simp))
    | _ => exact absurd (show false = true from hs) Bool.false_ne_true
  | str i =>
    obtain ⟨t, rfl⟩ := rx
    cases y with
    | non => cases ry; exact PySem.EqNone.eq_str_none (fin_bl I q (by simp))
    | bl j => cases ry; exact PySem.EqMixed.eq_str_bool (fin_bl I q (by simp))
    | int j => obtain ⟨t', rfl⟩ := ry; exact PySem.EqMixed.eq_str_int (fin_bl I q (by simp))
    | str j => obtain ⟨t', rfl⟩ := ry; exact eq_str (fin_bl I q dec_str)
    | _ => exact absurd (show false = true from hs) Bool.false_ne_true
  | byt i =>
    obtain ⟨t, rfl⟩ := rx
    cases y with
    | byt j => obtain ⟨t', rfl⟩ := ry; exact PySem.W.eq_bytes (fin_bl I q dec_byt)
    | _ => exact absurd (show false = true from hs) Bool.false_ne_true
  | _ => cases y <;> exact absurd (show false = true from hs) Bool.false_ne_true
theorem op_ne : OpR X (compareOp .NotEq) rNe := by
  intro pins s σ H x y v u Q I rx ry h
  obtain ⟨hs, q⟩ := h
  cases x with
  | non =>
    cases rx
    cases y with
    | non => cases ry; exact PySem.EqNone.ne_none_none (fin_bl I q (by simp))
    | bl j => cases ry; exact PySem.EqNone.ne_none_bool (fin_bl I q (by simp))
    | int j => obtain ⟨t', rfl⟩ := ry; exact PySem.EqNone.ne_none_int (fin_bl I q (by simp))
    | str j => obtain ⟨t', rfl⟩ := ry; exact PySem.EqNone.ne_none_str (fin_bl I q (by simp))
    | _ => exact absurd (show false = true from hs) Bool.false_ne_true
  | bl i =>
    cases rx
    cases y with
    | non => cases ry; exact PySem.EqNone.ne_bool_none (fin_bl I q (by simp))
    | bl j => cases ry; exact ne_bool (fin_bl I q (congrArg not dec_bl))
    | str j => obtain ⟨t', rfl⟩ := ry; exact PySem.EqMixed.ne_bool_str (fin_bl I q (by simp))
    | _ => exact absurd (show false = true from hs) Bool.false_ne_true
  | int i =>
    obtain ⟨t, rfl⟩ := rx
    cases y with
    | non => cases ry; exact PySem.EqNone.ne_int_none (fin_bl I q (by simp))
    | int j => obtain ⟨t', rfl⟩ := ry; exact ne_int (fin_bl I q (congrArg not dec_int))
    | str j => obtain ⟨t', rfl⟩ := ry; exact PySem.EqMixed.ne_int_str (fin_bl I q (by simp))
    | _ => exact absurd (show false = true from hs) Bool.false_ne_true
  | str i =>
    obtain ⟨t, rfl⟩ := rx
    cases y with
    | non => cases ry; exact PySem.EqNone.ne_str_none (fin_bl I q (by simp))
    | bl j => cases ry; exact PySem.EqMixed.ne_str_bool (fin_bl I q (by simp))
    | int j => obtain ⟨t', rfl⟩ := ry; exact PySem.EqMixed.ne_str_int (fin_bl I q (by simp))
    | str j => obtain ⟨t', rfl⟩ := ry; exact ne_str (fin_bl I q (congrArg not dec_str))
    | _ => exact absurd (show false = true from hs) Bool.false_ne_true
  | byt i =>
    obtain ⟨t, rfl⟩ := rx
    cases y with
    | byt j => obtain ⟨t', rfl⟩ := ry; exact PySem.W.ne_bytes (fin_bl I q (congrArg not dec_byt))
    | _ => exact absurd (show false = true from hs) Bool.false_ne_true
  | _ => cases y <;> exact absurd (show false = true from hs) Bool.false_ne_true
theorem op_lt : OpR X (compareOp .Lt) (rI0 fun i j => .bl (decide (i < j))) := opB0 fun _ _ _ _ _ _ _ q => lt_int q
theorem op_le : OpR X (compareOp .LtE) (rI0 fun i j => .bl (decide (i ≤ j))) := opB0 fun _ _ _ _ _ _ _ q => le_int q
theorem op_gt : OpR X (compareOp .Gt) (rI0 fun i j => .bl (decide (j < i))) := opB0 fun _ _ _ _ _ _ _ q => gt_int q
theorem op_ge : OpR X (compareOp .GtE) (rI0 fun i j => .bl (decide (j ≤ i))) := opB0 fun _ _ _ _ _ _ _ q => ge_int q
theorem op_lt_str : OpR X (compareOp .Lt) (fun x y H Q => ∃ i j, x = .str i ∧ y = .str j ∧ Q (.bl (decide (i.cps.toList < j.cps.toList))) H) := by
  intro pins s σ H x y v u Q I rx ry h
  obtain ⟨i, j, rfl, rfl, q⟩ := h
  obtain ⟨t, rfl⟩ := rx
  obtain ⟨t', rfl⟩ := ry
  exact lt_str (fin_bl I q rfl)
theorem nomark (b : Expr) {op : CmpOp} (h : op ≠ .In := by decide) (h2 : op ≠ .NotIn := by decide) : behindInMarks op b = false := by
  have e1 : (op == CmpOp.In) = false := by cases op <;> first | rfl | exact absurd rfl h
  have e2 : (op == CmpOp.NotIn) = false := by cases op <;> first | rfl | exact absurd rfl h2
  cases b <;> simp [behindInMarks, e1, e2]
theorem pe_cmpR {op : CmpOp} {r : R2} (ho : OpR X (compareOp op) r) (ha : PE X a ta) (hb : PE X b tb) (hm : behindInMarks op b = false) : PE X (.Compare a [op] [b] pos) (tOp r ta tb) := by
  intro pins s σ H Q I h
  exact wpAny_Compare1 (binT ha hb I h fun v u s2 x y H2 I2 rx ry q => ho pins s2 σ H2 x y v u Q I2 rx ry q) hm
def tTest (t : TE) : TT := fun σ H Q => t σ H fun x H' => ∃ k, x = .bl k ∧ Q k H'
theorem pt_cmpR {op : CmpOp} {r : R2} (ho : OpR X (compareOp op) r) (ha : PE X a ta) (hb : PE X b tb) (hm : behindInMarks op b = false) : PT X (.Compare a [op] [b] pos) (tTest (tOp r ta tb)) := by
  intro pins s σ H Q I h
  refine wpAny_isTrue_Compare1 (thn (ha pins s σ H _ I h) fun v s1 ⟨x, H1, I1, r1, q1⟩ => thn (hb pins s1 σ H1 _ I1 q1) fun u s2 ⟨y, H2, I2, r2, q2⟩ =>
    thn (ho pins s2 σ H2 x y v u _ I2 r1 r2 q2) fun c s3 ⟨z, H3, I3, r3, k, e, q3⟩ => ?_) hm
  subst e
  cases r3
  exact wpAny_truthy_bool ⟨H3, I3, q3⟩
def tChain (r r' : R2) (ta tb tc : TE) : TE := fun σ H Q => ta σ H fun x H1 => tb σ H1 fun y H2 => r x y H2 fun z H3 => ∃ k, z = .bl k ∧
  (if k = true then tc σ H3 fun w' H4 => r' y w' H4 Q else Q (.bl false) H3)
theorem pe_chain {op op' : CmpOp} {r r' : R2} (ho : OpR X (compareOp op) r) (ho' : OpR X (compareOp op') r') (ha : PE X a ta) (hb : PE X b tb) (hc : PE X c tc)
    (hm : lastMarks [op, op'] [b, c] = false := by with_unfolding_all rfl) : PE X (.Compare a [op, op'] [b, c] pos) (tChain r r' ta tb tc) := by
  intro pins s σ H Q I h
  refine Compare_chain (thn (ha pins s σ H _ I h) fun v s1 ⟨x, H1, I1, r1, q1⟩ => chain_link (thn (hb pins s1 σ H1 _ I1 q1) fun u s2 ⟨y, H2, I2, r2, q2⟩ =>
    thn (ho pins s2 σ H2 x y v u _ I2 r1 r2 q2) fun d s3 ⟨z, H3, I3, r3, k, e, q3⟩ => ?_)) hm
  subst e
  cases r3
  refine wpAny_truthy_bool ?_
  cases k with
  | false => exact ite_ff ⟨.bl false, H3, I3, rfl, q3⟩
  | true => exact ite_tt (chain_last (thn (hc pins s3 σ H3 _ I3 q3) fun w' s4 ⟨z', H4, I4, r4, q4⟩ => ho' pins s4 σ H4 y z' u w' Q I4 r2 r4 q4))
theorem pt_chain {op op' : CmpOp} {r r' : R2} (ho : OpR X (compareOp op) r) (ho' : OpR X (compareOp op') r') (ha : PE X a ta) (hb : PE X b tb) (hc : PE X c tc)
    (hm : lastMarks [op, op'] [b, c] = false := by with_unfolding_all rfl) : PT X (.Compare a [op, op'] [b, c] pos) (tTest (tChain r r' ta tb tc)) := by
  intro pins s σ H Q I h
  refine isTrue_chain (thn (ha pins s σ H _ I h) fun v s1 ⟨x, H1, I1, r1, q1⟩ => test_link (thn (hb pins s1 σ H1 _ I1 q1) fun u s2 ⟨y, H2, I2, r2, q2⟩ =>
    thn (ho pins s2 σ H2 x y v u _ I2 r1 r2 q2) fun d s3 ⟨z, H3, I3, r3, k, e, q3⟩ => ?_)) hm
  subst e
  cases r3
  refine wpAny_truthy_bool ?_
  cases k with
  | false =>
    obtain ⟨k', e', q'⟩ := q3
    cases e'
    exact ite_ff ⟨H3, I3, q'⟩
  | true =>
    refine ite_tt (test_last (thn (hc pins s3 σ H3 _ I3 q3) fun w' s4 ⟨z', H4, I4, r4, q4⟩ => thn (ho' pins s4 σ H4 y z' u w' _ I4 r2 r4 q4) fun d' s5 ⟨z2, H5, I5, r5, k2, e2, q5⟩ => ?_))
    subst e2
    cases r5
    exact wpAny_truthy_bool ⟨H5, I5, q5⟩
def TruV (K : PySem.W.Frag) (x : V) (H : Hp) (k : Bool) : Prop :=
  match x with
  | .non => k = false
  | .bl b => k = b
  | .int i => k = (i != 0)
  | .str y => y.length ≤ sizeLine ∧ k = ((y.length : Int) != 0)
  | .byt y => y.size ≤ sizeLine ∧ k = ((y.size : Int) != 0)
  | .ref p => (∃ xs, SqL K H p xs ∧ k = !xs.isEmpty) ∨ (∃ xs, SqT K H p xs ∧ k = !xs.isEmpty) ∨ ∃ kvs, H p = some (.dK kvs) ∧ k = !kvs.isEmpty
  | _ => False
theorem isEmpty_kv {κ : Type} {kvs : List (κ × V)} {vs : List (κ × Value)} (r : KV kvs vs) : (!vs.isEmpty) = !kvs.isEmpty := by
  cases r <;> rfl
theorem isEmpty_of {xs : List V} {its : List Value} (r : Vals xs its) : (!its.toArray.isEmpty) = !xs.isEmpty := by
  cases r <;> simp
theorem line63 : (sizeLine : Nat) < 2 ^ 63 := by rw [sizeLine_eq]; decide
theorem tru_ok : TruR X (fun x H Q => ∃ k, TruV X.K x H k ∧ Q k H) := by
  intro pins s σ H x v Q I rx h
  obtain ⟨k, e, q⟩ := h
  have hl := line63
  have hs : sizeLine = 16777216 := sizeLine_eq
  cases x with
  | non =>
    cases rx
    have e' : k = false := e
    subst e'
    exact truthy_none ⟨H, I, q⟩
  | bl b =>
    cases rx
    have e' : k = b := e
    subst e'
    exact wpAny_truthy_bool ⟨H, I, q⟩
  | int i =>
    obtain ⟨t, rfl⟩ := rx
    have e' : k = (i != 0) := e
    subst e'
    exact PySem.P.truthy_int ⟨H, I, q⟩
  | str y =>
    obtain ⟨t, rfl⟩ := rx
    obtain ⟨hy, e'⟩ : y.length ≤ sizeLine ∧ k = ((y.length : Int) != 0) := e
    subst e'
    exact PySem.P.truthy_str (by omega) ⟨H, I.tok _, q⟩
  | byt y =>
    obtain ⟨t, rfl⟩ := rx
    obtain ⟨hy, e'⟩ : y.size ≤ sizeLine ∧ k = ((y.size : Int) != 0) := e
    subst e'
    exact PySem.W.truthy_bytes (by omega) ⟨H, I.tok _, q⟩
  | ref p =>
    cases rx
    have e' : (∃ xs, SqL X.K H p xs ∧ k = !xs.isEmpty) ∨ (∃ xs, SqT X.K H p xs ∧ k = !xs.isEmpty) ∨ ∃ kvs, H p = some (.dK kvs) ∧ k = !kvs.isEmpty := e
    rcases e' with ⟨xs, hx, e'⟩ | ⟨xs, hx, e'⟩ | ⟨kvs, hx, e'⟩
    · subst e'
      obtain ⟨its, r, pl, hz⟩ := I.list hx
      have hlen := r.length
      exact wpAny_truthy_list pl.isList (by simp only [List.size_toArray]; omega) ⟨H, I.tok _, by rw [isEmpty_of r]; exact q⟩
    · subst e'
      obtain ⟨its, r, pl, hz⟩ := I.tuple hx
      have hlen := r.length
      exact truthy_tuple pl (by simp only [List.size_toArray]; omega) ⟨H, I.tok _, by rw [isEmpty_of r]; exact q⟩
    · subst e'
      obtain ⟨hz, hS, vs, r, m⟩ : kvs.length ≤ sizeLine ∧ (p == sysModules) = false ∧ ∃ vs, KV kvs vs ∧ s.heap.DictOf (mixKind X.prog X.w) p vs := I.hok p _ hx
      have hlen : kvs.length = vs.length := Paired.length r
      exact wpAny_truthy_dict hS m (by omega) ⟨H, I.tok _, by rw [isEmpty_kv r]; exact q⟩
  | _ => exact (show False from e).elim
theorem pt_truth (ha : PE X a ta) (he : ∀ whole, isTrue a X.env whole = (do let v ← whole; standAt a.pos; holding [v] (truthy v))) :
    PT X a (fun σ H Q => ta σ H fun x H' => ∃ k, TruV X.K x H' k ∧ Q k H') := by
  intro pins s σ H Q I h
  exact isTrue_plain (thn (ha pins s σ H _ I h) fun v s1 ⟨x, H1, I1, r1, q1⟩ => tru_ok pins s1 σ H1 x v Q I1 r1 q1) (he _)
theorem op_add_str : OpR X (binaryOp .Add) (fun x y H Q => ∃ i j, x = .str i ∧ y = .str j ∧ i.length + j.length ≤ sizeLine ∧ Q (.str (i ++ j)) H) := by
  intro pins s σ H x y v u Q I rx ry h
  obtain ⟨i, j, rfl, rfl, hz, q⟩ := h
  obtain ⟨t, rfl⟩ := rx
  obtain ⟨t', rfl⟩ := ry
  exact add_str (fun t' tk => ⟨.str (i ++ j), H, I.tok _, ⟨_, rfl⟩, q⟩) hz
theorem vals1 {x : V} {us : List Value} (r : Vals [x] us) : ∃ u, us = [u] ∧ RelV x u := by
  cases r with
  | cons r1 r2 => cases r2; exact ⟨_, rfl, r1⟩
theorem vals2 {x y : V} {us : List Value} (r : Vals [x, y] us) : ∃ u w', us = [u, w'] ∧ RelV x u ∧ RelV y w' := by
  cases r with
  | cons r1 r2 =>
    cases r2 with
    | cons r3 r4 => cases r4; exact ⟨_, _, rfl, r1, r3⟩
theorem call_max2 (hc : X.calm = true) : CallR X (.builtin "max") (fun xs H Q => ∃ i j, xs = [.int i, .int j] ∧ Q (.int (if j > i then j else i)) H) := by
  intro pins s σ H xs us Q I r h
  obtain ⟨i, j, rfl, q⟩ := h
  obtain ⟨u, w', rfl, ⟨t, rfl⟩, ⟨t', rfl⟩⟩ := vals2 r
  refine max_two_ints (I.ok.hd hc) fun h' tk k => ⟨_, H, I.kept k, ?_, q⟩
  by_cases hj : j > i
  · rw [if_pos hj, if_pos hj]; exact ⟨_, rfl⟩
  · rw [if_neg hj, if_neg hj]; exact ⟨_, rfl⟩
theorem call_min2 (hc : X.calm = true) : CallR X (.builtin "min") (fun xs H Q => ∃ i j, xs = [.int i, .int j] ∧ Q (.int (if j < i then j else i)) H) := by
  intro pins s σ H xs us Q I r h
  obtain ⟨i, j, rfl, q⟩ := h
  obtain ⟨u, w', rfl, ⟨t, rfl⟩, ⟨t', rfl⟩⟩ := vals2 r
  refine min_two_ints (I.ok.hd hc) fun h' tk k => ⟨_, H, I.kept k, ?_, q⟩
  by_cases hj : j < i
  · rw [if_pos hj, if_pos hj]; exact ⟨_, rfl⟩
  · rw [if_neg hj, if_neg hj]; exact ⟨_, rfl⟩
theorem call_int1 : CallR X (.type "int") (fun xs H Q => (∃ i, xs = [.int i] ∧ Q (.int i) H) ∨ ∃ k, xs = [.bl k] ∧ Q (.int (if k then 1 else 0)) H) := by
  intro pins s σ H xs us Q I r h
  rcases h with ⟨i, rfl, q⟩ | ⟨k, rfl, q⟩
  · obtain ⟨u, rfl, t, rfl⟩ := vals1 r
    exact call_int_int ⟨.int i, H, I, ⟨_, rfl⟩, q⟩
  · obtain ⟨u, rfl, r1⟩ := vals1 r
    cases r1
    exact call_int_bool ⟨.int (if k then 1 else 0), H, I.tok _, ⟨_, rfl⟩, q⟩
end
end L2
namespace L2
open PySem PySem.Spec PyProof.Rows
structure ObjM (h : Heap) (x dx C : Addr) (mA : Str → Option Value) : Prop where
  obj : h.get? x = some (PySem.W.instObj C dx)
  ns : h.Ns1 dx mA
  ne : dx ≠ x
theorem lookIn_ns {h : Heap} {dx : Addr} {mA : Str → Option Value} (n : h.Ns1 dx mA) : ∃ od, h.get? dx = some od ∧ ∀ name, PySem.W.lookIn name od = some (mA name) := by
  obtain ⟨o, es, ep, ho, hd, hk, _, hm⟩ := n
  refine ⟨o, ho, fun name => ?_⟩
  have e := hm name
  unfold nsFind findBy at e
  rw [← Array.find?_toList] at e
  unfold PySem.W.lookIn
  rw [hd]
  dsimp only
  split
  · rename_i y q
    rw [q] at e
    exact congrArg some e
  · rename_i q
    rw [q] at e
    have a : es.toList.any (·.refKey) = false := by
      rw [List.any_eq_false]
      intro y hy
      obtain ⟨z, t, hkey⟩ := hk y (Array.mem_toList_iff.mp hy)
      simp [DictEntry.refKey, hkey]
    have a' : ¬ es.toList.any (·.refKey) = true := by rw [a]; exact Bool.false_ne_true
    rw [if_neg a']
    exact congrArg some e
theorem ObjM.look {h : Heap} {x dx C : Addr} {mA : Str → Option Value} (I : ObjM h x dx C mA) : ∃ od, PySem.W.InstAt h x (PySem.W.instObj C dx) C (some od) ∧ ∀ name, PySem.W.lookIn name od = some (mA name) :=
  let ⟨od, ho, hl⟩ := lookIn_ns I.ns
  ⟨od, ⟨I.obj, rfl, rfl, ho⟩, hl⟩
section
variable {prog : Program} {w : World} {A : Around} {E : Value → Shared → Prop} {s : Shared} {K : PySem.W.Frag} {x dx C f : Addr} {mA : Str → Option Value} {name : Str} {v : Value}
end
theorem RelO.some_of {v : V} {o : Option Value} (r : RelO (some v) o) : ∃ u, o = some u ∧ RelV v u := by
  cases o with
  | none => exact (show False from r).elim
  | some u => exact ⟨u, rfl, r⟩
section
variable {P : Program} {w : World} {H H' : Hp} {h h' : Heap} {a C dx : Addr} {fs fs' : List (Str × V)}
theorem ins_get (hok : HOk P w H h) (e : H a = some (.ins C dx fs)) : ∃ mA, ObjM h a dx C mA ∧ (∀ f, RelO (fs.lookup f) (mA f)) ∧ PySem.Within mA (fs.map (·.1)) ∧ fs.length ≤ 1000 ∧ H dx = some (.own a) := by
  obtain ⟨d, z, ne, ob, mA, n, r, q⟩ := (show ObjOk P w H h a (.ins C dx fs) from hok a _ e)
  exact ⟨mA, ⟨ob, n, ne⟩, r, q, z, d⟩
end
structure Cls (K : PySem.W.Frag) (C : Addr) : Prop where
  pg : PySem.W.plainGet K C Str.empty = true
  hd : PySem.W.hasDictIn K C = true
  po : PySem.W.plainOver K C = true
  sa : PySem.W.findIn K (.ref C) "__setattr__" = some (some (.builtin "object.__setattr__"))
theorem Cls.get {K : PySem.W.Frag} {C : Addr} (c : Cls K C) (f : Str) : PySem.W.plainGet K C f = true := c.pg
section
variable {X : Cx} {pins : List (Addr × Obj)} {σ : St} {H : Hp} {s : Shared} {a C dx : Addr} {fs : List (Str × V)} {f : Str} {v : V} {A : Around} {E : Value → Shared → Prop}
end
section
variable {X : Cx} {o e value : Expr} {f : Str} {pos pos' tpos : Pos} {ta tv : TE}
end
section
variable {X : Cx} {pins : List (Addr × Obj)} {σ : St} {H : Hp} {s : Shared} {A : Around} {E : Value → Shared → Prop} {Q : Value → Shared → Prop} {c : Value} {b : Bool}
inductive TyOf (K : PySem.W.Frag) (H : Hp) : V → Value → Prop where
  | non : TyOf K H .non (.type "NoneType")
  | bl (x : Bool) : TyOf K H (.bl x) (.type "bool")
  | int (i : Int) : TyOf K H (.int i) (.type "int")
  | str (x : Str) : TyOf K H (.str x) (.type "str")
  | flt (x : UInt64) : TyOf K H (.flt x) (.type "float")
  | lst {a : Addr} {xs : List V} (e : H a = some (.lst xs)) : TyOf K H (.ref a) (.type "list")
  | frz {a : Addr} {o : Obj} {xs : List V} (e : H a = some (.frz o (.lst xs))) : TyOf K H (.ref a) (.type "list")
  | tup {a : Addr} {xs : List V} (e : H a = some (.tup xs)) : TyOf K H (.ref a) (.type "tuple")
  | dK {a : Addr} {kvs : List (Key × V)} (e : H a = some (.dK kvs)) : TyOf K H (.ref a) (.type "dict")
  | dT {a : Addr} {kvs : List (List Key × V)} (e : H a = some (.dT kvs)) : TyOf K H (.ref a) (.type "dict")
  | ins {a C dx : Addr} {fs : List (Str × V)} (e : H a = some (.ins C dx fs)) (cl : Cls K C) (ha : PySem.W.findIn K (.ref C) "__class__" = some (some (.builtin "object.__class__")))
      (hn : PySem.W.specialIn K (.builtin "object.__class__") "__get__" = some (some (.builtin "getset_descriptor.__get__"))) (htk : PySem.W.takesIn K (.builtin "object.__class__") = some true)
      (hm : PySem.W.mroIn K C (.type "object") = some true) : TyOf K H (.ref a) (.ref C)
theorem isinst_ok {x : V} {u t : Value} (I : Inv X pins σ H s) (rx : RelV x u) (ty : TyOf X.K H x t) (e : PySem.W.kitOne X.K t c = some b) (h : ∀ tk, Q (.bool b) { s with toks := tk }) :
    wpAny (model X.prog X.w) A (call (.builtin "isinstance") [u, c]) Q E s := by
  cases ty with
  | non => cases (show u = Value.none from rx); exact PySem.W.kia_one PySem.W.kitx_none I.kIn True.intro e (fun z => nomatch z) h
  | bl y => cases (show u = Value.bool y from rx); exact PySem.W.kia_one PySem.W.kitx_bool I.kIn True.intro e (fun z => nomatch z) h
  | int i => obtain ⟨t, q⟩ := (show ∃ t, u = Value.int i t from rx); cases q; exact PySem.W.kia_one PySem.W.kitx_int I.kIn True.intro e (fun z => nomatch z) h
  | str y => obtain ⟨t, q⟩ := (show ∃ t, u = Value.str y t from rx); cases q; exact PySem.W.kia_one PySem.W.kitx_str I.kIn True.intro e (fun z => nomatch z) h
  | flt y => obtain ⟨t, q⟩ := (show ∃ t, u = Value.float y t from rx); cases q; exact PySem.W.kia_one PySem.W.kitx_float I.kIn True.intro e (fun z => nomatch z) h
  | @lst a xs ea =>
    cases (show u = Value.ref a from rx)
    obtain ⟨_, _, n, _, h1⟩ := (show ObjOk X.prog X.w H s.heap a (.lst xs) from I.hok a _ ea)
    exact PySem.W.kia_one PySem.W.kitx_list I.kIn ⟨_, h1, rfl⟩ e (fun z => nomatch z) h
  | @frz a ob xs ea =>
    cases (show u = Value.ref a from rx)
    obtain ⟨_, _, _, n, _, h1⟩ := (show ObjOk X.prog X.w H s.heap a (.frz ob (.lst xs)) from I.hok a _ ea)
    exact PySem.W.kia_one PySem.W.kitx_list I.kIn ⟨_, h1, rfl⟩ e (fun z => nomatch z) h
  | @tup a xs ea =>
    cases (show u = Value.ref a from rx)
    obtain ⟨_, _, _, p⟩ := (show ObjOk X.prog X.w H s.heap a (.tup xs) from I.hok a _ ea)
    obtain ⟨o, h1, h2, _⟩ := p
    exact PySem.W.kia_one PySem.W.kitx_tuple I.kIn ⟨o, h1, h2⟩ e (fun z => nomatch z) h
  | @dK a kvs ea =>
    cases (show u = Value.ref a from rx)
    obtain ⟨_, _, vs, _, p⟩ := (show ObjOk X.prog X.w H s.heap a (.dK kvs) from I.hok a _ ea)
    obtain ⟨o, es, ep, h1, h2, _⟩ := p
    exact PySem.W.kia_one PySem.W.kitx_dict I.kIn ⟨o, h1, h2.1⟩ e (fun z => nomatch z) h
  | @dT a kvs ea =>
    cases (show u = Value.ref a from rx)
    obtain ⟨_, _, xs, _, o, es, ep, h1, h2, _⟩ := (show ObjOk X.prog X.w H s.heap a (.dT kvs) from I.hok a _ ea)
    exact PySem.W.kia_one PySem.W.kitx_dict I.kIn ⟨o, h1, h2.1⟩ e (fun z => nomatch z) h
  | @ins a C dx fs ea cl ha hn htk hm =>
    cases (show u = Value.ref a from rx)
    obtain ⟨mA, O, _⟩ := ins_get I.hok ea
    obtain ⟨od, J, _⟩ := O.look
    exact PySem.W.kia_one (PySem.W.kitx_own (cl.get _) cl.hd ha hn htk hm) I.kIn J e (fun z => nomatch z) h
end
end L2
namespace L2
open PySem PySem.Spec PyProof.Rows
structure Room (k : Nat) (A : Around) : Prop where
  hd : A.handled = none
  dp : A.depth + 3 * k + 5 < recursionLimit
  un : A.units + 16 * k + 200 < cLine
  gd : A.guards = some []
theorem Room.mono {j k : Nat} {A : Around} (r : Room k A) (h : j ≤ k) : Room j A := ⟨r.hd, by have := r.dp; omega, by have := r.un; omega, r.gd⟩
theorem Room.deeper {k : Nat} {A : Around} (r : Room (k + 1) A) (env : Env) : Room k (A.deeper env) :=
  ⟨r.hd, by have := r.dp; show A.depth + 1 + 3 * k + 5 < _; omega, by have := r.un; show A.units + 3 + 16 * k + 200 < _; omega, r.gd⟩
theorem Room.depth {k : Nat} {A : Around} (r : Room k A) : A.depth < recursionLimit := by have := r.dp; omega
theorem Room.units {k : Nat} {A : Around} (r : Room k A) : A.units + 64 < cLine := by have := r.un; omega
def tNil : TA := fun _ H Q => Q [] H
def tCons (ta : TE) (tr : TA) : TA := fun σ H Q => ta σ H fun x H1 => tr σ H1 fun xs H2 => Q (x :: xs) H2
section
variable {X : Cx} {e : Expr} {es : List Expr} {te : TE} {t : TA} {pos : Pos}
theorem pa_nil : PA X [] tNil := fun _ _ _ _ H Q I h => Calls.spliced_nil ⟨[], H, I, .nil, h⟩
theorem pa_cons (ha : PE X e te) (hr : PA X es t) (hs : starEach (e :: es) X.env = (false, eval e X.env) :: starEach es X.env := by rfl) : PA X (e :: es) (tCons te t) := by
  intro pos pins s σ H Q I h
  rw [hs]
  show wpAny _ _ (spliced ((false, eval e X.env) :: backTo pos (starEach es X.env))) _ _ s
  refine Calls.spliced_cons (thn (ha pins s σ H _ I h) fun u s1 ⟨x, H1, I1, r1, q1⟩ => ?_)
  exact thn (hr pos pins s1 σ H1 _ I1 q1) fun us s2 ⟨xs, H2, I2, r2, q2⟩ => ⟨x :: xs, H2, I2, .cons r1 r2, q2⟩
def tTup (t : TA) : TE := fun σ H Q => t σ H fun xs H1 => xs.length ≤ sizeLine ∧ ∀ p, H1 p = none → Q (.ref p) (upd H1 p (.tup xs))
def tLst (t : TA) : TE := fun σ H Q => t σ H fun xs H1 => xs.length ≤ sizeLine ∧ ∀ p, H1 p = none → Q (.ref p) (upd H1 p (.lst xs))
theorem pe_tup {x1} (h : PA X es t) : PE X (.Tuple es x1 pos) (tTup t) := by
  intro pins s σ H Q I hq
  refine wpAny_Tuple_spliced (thn (h pos pins s σ H _ I hq) fun us s1 ⟨xs, H1, I1, r, z, q⟩ => ⟨by rw [← r.length]; exact z, ?_⟩)
  have hf : H1 s1.heap.objs.size = none := I1.hok.fresh (Nat.le_refl _)
  refine ⟨.ref s1.heap.objs.size, upd H1 s1.heap.objs.size (.tup xs), I1.laid (t' := s1.toks) (fun b u e => Heap.get?_push_of_some _ e) (Nat.le_refl _) ?_, rfl, q _ hf⟩
  exact ⟨z, us, r, ⟨_, Heap.get?_push_size _ rfl, rfl, rfl, _, rfl⟩⟩
theorem pe_lst (h : PA X es t) : PE X (.List es pos) (tLst t) := by
  intro pins s σ H Q I hq
  refine wpAny_List_spliced (thn (h pos pins s σ H _ I hq) fun us s1 ⟨xs, H1, I1, r, z, q⟩ => ⟨by rw [← r.length]; exact z, ?_⟩)
  have hf : H1 s1.heap.objs.size = none := I1.hok.fresh (Nat.le_refl _)
  refine ⟨.ref s1.heap.objs.size, upd H1 s1.heap.objs.size (.lst xs), I1.laid (t' := s1.toks) (fun b u e => Heap.get?_push_of_some _ e) (Nat.le_refl _) ?_, rfl, q _ hf⟩
  exact ⟨z, us, 0, r, Heap.get?_push_size _ rfl⟩
end
abbrev Sp := List V → Hp → VK → XK → Prop
abbrev CXT := List Env → Hp → Shared → XK → Value → Shared → Prop
structure Env0 (P : Program) (w : World) (K : PySem.W.Frag) (mg : Str → Option Value) (base : Heap) (A : Around) (outer : List Env) (s : Shared) (H : Hp) : Prop where
  frames : A.frames = some outer
  mod : Mod K mg base
  bs : ∀ b o, base.get? b = some o → s.heap.get? b = some o ∧ H b = none
  bsz : base.objs.size ≤ s.heap.objs.size
  funs : s.heap.FunFrames base outer
  frf : ∀ b ∈ frs outer, H b = none
  hok : HOk P w H s.heap
  bare : AllBare s.gens
def CE (outer : List Env) (P : Program) (w : World) (H : Hp) (s : Shared) (Q : VK) (u : Value) (s' : Shared) : Prop :=
  ∃ v H', s'.os = s.os ∧ AllBare s'.gens ∧ Un (frs outer) [] H H' s.heap s'.heap ∧ HOk P w H' s'.heap ∧ RelV v u ∧ Q v H'
def CR (CX : CXT) (outer : List Env) (P : Program) (w : World) (H : Hp) (s : Shared) (Q : VK) (E : XK) (r : Result) (s' : Shared) : Prop :=
  match r with
  | .ok (.ret u) => CE outer P w H s Q u s'
  | .ok _ => False
  | .error e => CX outer H s E e s'
structure FnOk (P : Program) (w : World) (K : PySem.W.Frag) (mg : Str → Option Value) (base : Heap) (CX : CXT) (k : Nat) (f : Addr) (fd : FuncData) (ps : List Str) (sp : Sp) : Prop where
  len : ∀ vs H Q E, sp vs H Q E → vs.length = ps.length
  run : ∀ (A : Around) (outer : List Env) (s : Shared) (H : Hp) (args : Args) (us : List Value) (vs : List V) (Q : VK) (E : XK), Room k A → Env0 P w K mg base A outer s H → BindsTo s fd args (ps.zip us) → Vals vs us → sp vs H Q E →
    codeAny (model P w) A (.call (.ref f) args) (CR CX outer P w H s Q E) s
section
variable {X : Cx} {pins : List (Addr × Obj)} {σ : St} {H : Hp} {s s' : Shared}
theorem Inv.env0 (I : Inv X pins σ H s) : Env0 X.prog X.w X.K X.mg X.base X.A X.stack s H :=
  ⟨I.ok.frames, I.ok.mod, I.bs, Nat.le_trans I.ok.bsz I.sz, I.stack, I.stkFree, I.hok, I.bare⟩
theorem Inv.after {Q : VK} {u : Value} (I : Inv X pins σ H s) (h : CE X.stack X.prog X.w H s Q u s') : EP X pins σ Q u s' := by
  obtain ⟨v, H', os, bare, un, hok, r, q⟩ := h
  obtain ⟨hh, g, d, t, os'⟩ := s'
  obtain rfl : os' = s.os := os
  exact ⟨v, H', I.call (h' := hh) (g' := g) (d' := d) (t' := t) (ch := []) un hok bare (fun b z => absurd z (by simp)), r, q⟩
end
def tCall (sp : Sp) (dvs : List V) (E : XK) (t : TA) : TE := fun σ H Q => t σ H fun vs H1 => sp (vs ++ dvs) H1 Q E
def Binds (K : PySem.W.Frag) (fd : FuncData) (ps : List Str) (ds : List Value) : Prop :=
  ∀ (s : Shared) (us : List Value), K.In s.heap → (us ++ ds).length = ps.length → BindsTo s fd ⟨us, []⟩ (ps.zip (us ++ ds))
theorem Binds.all {K : PySem.W.Frag} {fd : FuncData} {ps : List Str} (h : ∀ us : List Value, us.length = ps.length → bindArgs fd ⟨us, []⟩ = pure (ps.zip us)) : Binds K fd ps [] := fun s us _ hl => by
  rw [List.append_nil] at hl ⊢
  exact .of_eq (h us hl)
def Passes (CX : CXT) (X : Cx) (E : XK) : Prop := ∀ (pins : List (Addr × Obj)) (σ : St) (H : Hp) (s : Shared) (e : Value) (s' : Shared), Inv X pins σ H s → CX X.stack H s E e s' → X.xe e s'
section
variable {X : Cx} {CX : CXT} {k : Nat} {f C : Addr} {fd : FuncData} {ps : List Str} {sp : Sp} {dvs : List V} {ds : List Value} {E : XK} {x m : Str} {p pos apos : Pos} {e o : Expr} {es : List Expr} {ta : TE} {t : TA}
theorem run_fn {pins : List (Addr × Obj)} {σ : St} {H : Hp} {s : Shared} {Q : VK} {us : List Value} {vs : List V} (F : FnOk X.prog X.w X.K X.mg X.base CX k f fd ps sp) (hr : Room k X.A) (hb : Binds X.K fd ps ds) (hd : Vals dvs ds) (hx : Passes CX X E)
    (I : Inv X pins σ H s) (r : Vals vs us) (h : sp (vs ++ dvs) H Q E) : wpAny (model X.prog X.w) X.A (call (.ref f) us) (EP X pins σ Q) X.xe s := by
  have r2 : Vals (vs ++ dvs) (us ++ ds) := r.append hd
  have hl : (us ++ ds).length = ps.length := by rw [← r2.length]; exact F.len _ _ _ _ h
  refine wpAny_call (codeAny_mono (F.run X.A X.stack s H ⟨us, []⟩ (us ++ ds) (vs ++ dvs) Q E hr I.env0 (hb s us I.kIn hl) r2 h) fun r s' hq => ?_)
  cases r with
  | error e => exact hx pins σ H s e s' I hq
  | ok fl =>
    cases fl with
    | ret u => exact I.after hq
    | next => exact False.elim hq
    | brk => exact False.elim hq
    | cont => exact False.elim hq
theorem pe_call (F : FnOk X.prog X.w X.K X.mg X.base CX k f fd ps sp) (hr : Room k X.A) (hg : Gl X x) (hm : X.mg x = some (.ref f)) (hk : PySem.W.keepIn X.K (.ref f) = true) (hb : Binds X.K fd ps ds) (hd : Vals dvs ds) (hx : Passes CX X E)
    (ha : PA X (e :: es) t) (hdb : (x == ("__debug__" : Str)) = false := by decide) (he : starEach (e :: es) X.env = (false, eval e X.env) :: starEach es X.env := by rfl) (hpl : (backTo pos (starEach es X.env)).any (·.1) = false := by rfl) :
    PE X (.Call (.Name x p) (e :: es) [] pos) (tCall sp dvs E t) := by
  intro pins s σ H Q I h
  refine wpAny_Call_Name_kw (ld_glob I hg hm ?_ hdb)
  refine PySem.W.callWith_K (h₀ := X.base) I.ok.mod.kin hk (thn (ha pos pins s σ H _ I h) fun us s1 ⟨vs, H1, I1, r, q⟩ => ⟨I1.kIn, ?_⟩) he hpl
  exact run_fn F hr hb hd hx I1 r q
end
section
variable {X : Cx} {CX : CXT} {k : Nat} {f C : Addr} {fd : FuncData} {ps ks : List Str} {sp : Sp} {E : XK} {x m : Str} {p pos apos kpos : Pos} {e o : Expr} {es : List Expr} {kws : List Keyword} {te ta : TE} {t tk : TA} {nm : Option Str}
variable {g : List Value → List Value → List Value} {gV : List V → List V → List V}
end
structure FnScope (N P : List Str) (sc : Scope) : Prop where
  kind : sc.kind = .function
  co : sc.isCoroutine = false
  gen : sc.isGenerator = false
  nd : N.Nodup
  pre : N.take P.length = P
  par : ∀ x ∈ P, sc.names.lookup x = some .local ∨ sc.names.lookup x = some .cell
  nofree : ∀ y ∈ sc.names, y.2 ≠ .free
theorem bindL_out {kindOf : Str → Option NameKind} {x : Str} : ∀ {binds : List (Str × Value)} {m : Str → Option Value}, (∀ v, (x, v) ∉ binds) → bindL kindOf binds m x = m x
  | [], _, _ => rfl
  | (n, v) :: r, m, h => by
    unfold bindL
    rw [bindL_out fun w hw => h w (List.mem_cons_of_mem _ hw)]
    split
    · have : x ≠ n := by rintro rfl; exact h v List.mem_cons_self
      simp [this]
    · rfl
theorem bindC_out {kindOf : Str → Option NameKind} {x : Str} : ∀ {binds : List (Str × Value)} {m : Str → Option Value}, (∀ v, (x, v) ∉ binds) → bindC kindOf binds m x = m x
  | [], _, _ => rfl
  | (n, v) :: r, m, h => by
    unfold bindC
    rw [bindC_out fun w hw => h w (List.mem_cons_of_mem _ hw)]
    split
    · rfl
    · have : x ≠ n := by rintro rfl; exact h v List.mem_cons_self
      simp [this]
theorem bindL_get {kindOf : Str → Option NameKind} {x : Str} {v : Value} : ∀ {P : List Str} {vs : List Value} {i : Nat} {m : Str → Option Value}, P.Nodup → P[i]? = some x → vs[i]? = some v → kindOf x = some .local →
    bindL kindOf (P.zip vs) m x = some v
  | [], _, _, _, _, h, _, _ => by simp at h
  | _ :: _, [], _, _, _, _, h, _ => by simp at h
  | p :: P, w :: vs, 0, m, nd, h1, h2, hk => by
    simp at h1 h2; subst h1; subst h2
    show bindL kindOf ((p, w) :: P.zip vs) m p = _
    unfold bindL
    rw [bindL_out fun v hv => (List.nodup_cons.mp nd).1 (List.of_mem_zip hv).1, if_pos hk]
    simp
  | p :: P, w :: vs, i + 1, m, nd, h1, h2, hk => by
    show bindL kindOf ((p, w) :: P.zip vs) m x = _
    unfold bindL
    exact bindL_get (i := i) (List.nodup_cons.mp nd).2 (by simpa using h1) (by simpa using h2) hk
theorem bindC_get {kindOf : Str → Option NameKind} {x : Str} {v : Value} : ∀ {P : List Str} {vs : List Value} {i : Nat} {m : Str → Option Value}, P.Nodup → P[i]? = some x → vs[i]? = some v → kindOf x ≠ some .local →
    bindC kindOf (P.zip vs) m x = some v
  | [], _, _, _, _, h, _, _ => by simp at h
  | _ :: _, [], _, _, _, _, h, _ => by simp at h
  | p :: P, w :: vs, 0, m, nd, h1, h2, hk => by
    simp at h1 h2; subst h1; subst h2
    show bindC kindOf ((p, w) :: P.zip vs) m p = _
    unfold bindC
    rw [bindC_out fun v hv => (List.nodup_cons.mp nd).1 (List.of_mem_zip hv).1, if_neg hk]
    simp
  | p :: P, w :: vs, i + 1, m, nd, h1, h2, hk => by
    show bindC kindOf ((p, w) :: P.zip vs) m x = _
    unfold bindC
    exact bindC_get (i := i) (List.nodup_cons.mp nd).2 (by simpa using h1) (by simpa using h2) hk
def start (N : List Str) (vs : List V) : St := vs.map some ++ List.replicate (N.length - vs.length) none
def cxOf (CX : CXT) (P : Program) (w : World) (K : PySem.W.Frag) (mg : Str → Option Value) (base : Heap) (N : List Str) (qual : Str) (scope : Scope) (f : Addr) (cd : Value) (A : Around) (outer : List Env) (s : Shared) (H : Hp) (E : XK) : Cx where
  prog := P
  w := w
  K := K
  mg := mg
  base := base
  A := A.deeper (envOfC qual scope s.heap.objs.size f cd)
  N := N
  s₀ := s
  H₀ := H
  env := envOfC qual scope s.heap.objs.size f cd
  outer := outer
  stack := envOfC qual scope s.heap.objs.size f cd :: outer
  ex := []
  calm := true
  fn := fun _ => true
  pn := []
  xe := fun e s' => wpAny (model P w) (A.deeper (envOfC qual scope s.heap.objs.size f cd)) (leaving (envOfC qual scope s.heap.objs.size f cd) e) (fun _ s'' => CX outer H s E e s'') (fun e' s'' => CX outer H s E e' s'') s'
theorem cell_has {sc : Scope} {n : Nat} {x : Str} (h : sc.names.lookup x = some .cell) : ∃ c, (cellsFrom n sc.names []).lookup x = some c := by
  have q := PySem.W.cellsFrom_some sc.names n [] (.inl h)
  exact Option.isSome_iff_exists.mp q
theorem inv_start {CX : CXT} {P : Program} {w : World} {K : PySem.W.Frag} {mg : Str → Option Value} {base : Heap} {N ps : List Str} {qual : Str} {scope : Scope} {f : Addr} {cd : Value} {A : Around} {outer : List Env} {s s1 : Shared} {H : Hp} {E : XK} {us : List Value} {vs : List V}
    (S : FnScope N ps scope) (hd : A.handled = none) (e0 : Env0 P w K mg base A outer s H) (hl : vs.length = ps.length) (r : Vals vs us)
    (x : InCallC s s.heap.objs.size (bindL (envOfC qual scope s.heap.objs.size f cd).kindOf (ps.zip us) fun _ => none) (cellsFrom (s.heap.objs.size + 1) scope.names []) (bindC (envOfC qual scope s.heap.objs.size f cd).kindOf (ps.zip us) fun _ => none) s1) :
    Inv (cxOf CX P w K mg base N qual scope f cd A outer s H E) [] (start N vs) H s1 := by
  have hpl : ps.length ≤ N.length := by have := congrArg List.length S.pre; rw [List.length_take] at this; omega
  obtain ⟨h1, tk, rfl, hk⟩ := x.done
  have noA : ∀ b : Addr, b ∉ (cxOf CX P w K mg base N qual scope f cd A outer s H E).ex := fun b z => absurd (show b ∈ ([] : List Addr) from z) (by simp)
  refine ⟨⟨e0.mod, S.kind, rfl, rfl, Nat.le_refl _, fun y z c h1 h2 => ?_, fun y hy => ?_, fun y c _ h => ?_, fun _ => hd, Around.frames_deeper e0.frames, .inr ⟨rfl, rfl⟩, fun b z => absurd z (noA b), e0.bs, e0.bsz, fun b _ _ => noA b, fun b z => absurd z (noA b), e0.funs, e0.frf⟩,
    rfl, e0.bare, Un.kept hk, ⟨_, x.toInCall.ns, fun i y v h1 h2 h3 => ?_⟩, fun y c h => ⟨_, x.cell y c h⟩, e0.hok.fresh (Nat.le_refl _), fun y c h => ?_, fun p hp => absurd (show p ∈ ([] : List (Addr × Obj)) from hp) (by simp), e0.hok.kept hk, ?_⟩
  · exact name_of_addr x.apart (PySem.mem_of_lookup h1) (PySem.mem_of_lookup h2)
  · have hy : scope.names.lookup y = some .cell ∨ scope.names.lookup y = some .free := hy
    rcases hy with hy | hy
    · exact cell_has hy
    · exact absurd rfl (S.nofree _ (PySem.mem_of_lookup hy))
  · exact Nat.le_of_lt (x.above y c (PySem.mem_of_lookup h))
  · have hi : i < vs.length := by
      unfold start at h2
      by_cases hi : i < vs.length
      · exact hi
      · rw [List.getElem?_append_right (by simpa using hi)] at h2
        rw [List.getElem?_replicate] at h2
        split at h2 <;> cases h2
    have ha : vs[i]? = some v := by
      unfold start at h2
      rw [List.getElem?_append_left (by simpa using hi), List.getElem?_map] at h2
      cases e : vs[i]? with
      | none => rw [e] at h2; cases h2
      | some a => rw [e] at h2; cases h2; rfl
    obtain ⟨u, hu, rv⟩ := r.get ha
    have hp : ps[i]? = some y := by
      rw [← S.pre, List.getElem?_take_of_lt (by omega)]; exact h1
    have ndP : ps.Nodup := by rw [← S.pre]; exact S.nd.sublist (List.take_sublist _ _)
    refine ⟨u, rv, ?_⟩
    rcases S.par y (List.mem_of_getElem? hp) with k | k
    · exact .inl ⟨k, bindL_get ndP hp hu k⟩
    · obtain ⟨c, e⟩ := cell_has (n := s.heap.objs.size + 1) k
      refine .inr ⟨.inl k, c, e, ?_⟩
      have q := x.cell y c e
      rw [bindC_get ndP hp hu (by show scope.names.lookup y ≠ _; rw [k]; decide)] at q
      exact q
  · exact e0.hok.fresh (Nat.le_of_lt (x.above y c (PySem.mem_of_lookup h)))
  · unfold start
    show _ = N.length
    rw [List.length_append, List.length_map, List.length_replicate]
    omega
theorem fn_of {CX : CXT} {P : Program} {w : World} {K : PySem.W.Frag} {mg : Str → Option Value} {base : Heap} {k : Nat} {f : Addr} {name qual : Str} {params : Arguments} {body : List Stmt} {scope : Scope} {dV kV doc pm cdv ct oc : Value} {an od : Option Addr}
    {osl : Array (Option Value)} {N ps : List Str} {sp : Sp} (lk : K.lookup f = some ⟨oc, od, .func (PySem.W.fnOf name qual params body scope dV kV doc pm an cdv ct), osl⟩) (hcd : PySem.W.codeIn K cdv qual = true) (S : FnScope N ps scope)
    (len : ∀ vs H Q E, sp vs H Q E → vs.length = ps.length)
    (hbody : ∀ (A : Around) (outer : List Env) (s : Shared) (H : Hp) (vs : List V) (Q : VK) (E : XK), Room k (A.deeper (envOfC qual scope s.heap.objs.size f cdv)) → sp vs H Q E →
      ∃ t, PSs (cxOf CX P w K mg base N qual scope f cdv A outer s H E) body t ∧ t { nx := fun _ H' => Q .non H', rt := Q } (start N vs) H) :
    FnOk P w K mg base CX (k + 1) f (PySem.W.fnOf name qual params body scope dV kV doc pm an cdv ct) ps sp := by
  refine ⟨len, fun A outer s H args us vs Q E hr e0 hb r hsp => ?_⟩
  have hl := len _ _ _ _ hsp
  have KX : K.In s.heap := e0.mod.kin.keeps fun b o e => (e0.bs b o e).1
  have lim : s.heap.NoLimit := e0.mod.nolimit.keeps fun b o e => (e0.bs b o e).1
  have hkind : ∀ y ∈ ps.zip us, scope.names.lookup y.1 = some .local ∨ (scope.names.lookup y.1 = some .cell ∧ ((cellsFrom (s.heap.objs.size + 1) scope.names []).lookup y.1).isSome = true) := fun ⟨n, v⟩ hy => by
    rcases S.par n (List.of_mem_zip hy).1 with q | q
    · exact .inl q
    · exact .inr ⟨q, PySem.W.cellsFrom_some _ _ _ (.inl q)⟩
  refine codeAny_call_function hr.depth (KX _ _ lk) rfl S.co S.gen rfl (PySem.W.codeRec_of KX hcd) (hb _ _ _ _ ?_)
  refine wpAny_newFunctionEnv_cells S.kind hkind fun env he s1 x => ?_
  subst he
  refine ⟨lim.keeps x.toInCall.keep, codeAny_func ?_⟩
  obtain ⟨t, ht, hq⟩ := hbody A outer s H vs Q E (hr.deeper _) hsp
  have I : Inv (cxOf CX P w K mg base N qual scope f cdv A outer s H E) [] (start N vs) H s1 := inv_start S hr.hd e0 hl r x
  refine wpAny_mono (ht [] s1 (start N vs) H _ I hq) (fun fl s' hs => ?_) fun e s' hs => hs
  have fin : ∀ {σ' : St} {H' : Hp} {v : V} {u : Value}, Inv (cxOf CX P w K mg base N qual scope f cdv A outer s H E) [] σ' H' s' → RelV v u → Q v H' → CE outer P w H s Q u s' :=
    fun {σ' H' v u} J rv q => ⟨v, H', J.os, J.bare, J.base, J.hok, rv, q⟩
  cases fl with
  | ret u =>
    obtain ⟨v, σ', H', J, rv, q⟩ := hs
    exact fin J rv q
  | next =>
    obtain ⟨σ', H', J, q⟩ := hs
    exact fin (v := V.non) (u := Value.none) J rfl q
  | brk =>
    obtain ⟨_, _, _, q⟩ := hs
    exact False.elim q
  | cont =>
    obtain ⟨_, _, _, q⟩ := hs
    exact False.elim q
end L2
namespace L2
open PySem PySem.Spec PyProof.Rows
section
variable {X : Cx} {x : Str} {p pos : Pos} {e : Expr} {es : List Expr} {t : TA} {id T : String} {r : List V → Hp → VK → Prop}
def tCB (r : List V → Hp → VK → Prop) (t : TA) : TE := fun σ H Q => t σ H fun vs H1 => r vs H1 Q
theorem pe_callB (hc : CallR X (.builtin id) r) (hg : Gl X x) (hm : X.mg x = none) (hv : bootBuiltins x = some (.builtin id)) (ha : PA X (e :: es) t) (hn : x ≠ "__name__" := by decide) (hdb : (x == ("__debug__" : Str)) = false := by decide)
    (he : starEach (e :: es) X.env = (false, eval e X.env) :: starEach es X.env := by rfl) (hpl : (backTo pos (starEach es X.env)).any (·.1) = false := by rfl) : PE X (.Call (.Name x p) (e :: es) [] pos) (tCB r t) := by
  intro pins s σ H Q I h
  refine wpAny_Call_Name_kw (ld_blt I hg hm hv ?_ hn hdb)
  exact PyProof.Rows.callWith_builtin1 (thn (ha pos pins s σ H _ I h) fun us s1 ⟨vs, H1, I1, r1, q1⟩ => hc pins s1 σ H1 vs us Q I1 r1 q1) he hpl
theorem pe_callTy (hc : CallR X (.type T) r) (hg : Gl X x) (hm : X.mg x = none) (hv : bootBuiltins x = some (.type T)) (ha : PA X (e :: es) t) (hn : x ≠ "__name__" := by decide) (hdb : (x == ("__debug__" : Str)) = false := by decide)
    (he : starEach (e :: es) X.env = (false, eval e X.env) :: starEach es X.env := by rfl) (hpl : (backTo pos (starEach es X.env)).any (·.1) = false := by rfl) : PE X (.Call (.Name x p) (e :: es) [] pos) (tCB r t) := by
  intro pins s σ H Q I h
  refine wpAny_Call_Name_kw (ld_blt I hg hm hv ?_ hn hdb)
  exact PyProof.Rows.callWith_type1 (thn (ha pos pins s σ H _ I h) fun us s1 ⟨vs, H1, I1, r1, q1⟩ => hc pins s1 σ H1 vs us Q I1 r1 q1) he hpl
end
end L2
namespace HT
open PySem PyProof.Rows
section
open PySem.SeqAt
open PySem.AutoSeq1 (wpAny_loadPart')
open PySem.MeetsSeq PySem.MeetsSeq2 PySem.MeetsSeq3
end
section
variable {prog : Program} {w : World} {A : Around} {E : Value → Shared → Prop} {s : Shared}
def sIx (n d : Nat) : Option Int → Nat
  | none => d
  | some v => if v < 0 then (v + (n : Int)).toNat else min v.toNat n
theorem sIx_nat (n d k : Nat) : sIx n d (some (k : Int)) = min k n := by
  show (if (k : Int) < 0 then ((k : Int) + (n : Int)).toNat else min (k : Int).toNat n) = min k n
  rw [if_neg (by omega), Int.toNat_natCast]
theorem sIx_le (n d : Nat) (hd : d ≤ n) (o : Option Int) : sIx n d o ≤ n := by
  cases o with
  | none => exact hd
  | some v =>
    show (if v < 0 then (v + (n : Int)).toNat else min v.toNat n) ≤ n
    by_cases hv : v < 0
    · rw [if_pos hv]; omega
    · rw [if_neg hv]; exact Nat.min_le_right _ _
theorem clip_eq (v : Int) (n d : Nat) : (if v < 0 then max (v + (n : Int)) 0 else min v (n : Int)) = ((sIx n d (some v) : Nat) : Int) := by
  show (if v < 0 then max (v + (n : Int)) 0 else min v (n : Int)) = (((if v < 0 then (v + (n : Int)).toNat else min v.toNat n) : Nat) : Int)
  by_cases hv : v < 0
  · simp only [if_pos hv]; omega
  · simp only [if_neg hv]; omega
theorem adjust_gen (lo hi : Option Int) (n : Nat) : Builtin.Slice.sliceAdjust lo hi 1 (n : Int) = (((sIx n 0 lo : Nat) : Int), ((sIx n n hi : Nat) : Int)) := by
  have h1 : ¬ ((1 : Int) < 0) := by omega
  unfold Builtin.Slice.sliceAdjust
  simp only [h1, if_false]
  refine Prod.ext ?_ ?_
  · cases lo with
    | none => rfl
    | some v => exact clip_eq v n 0
  · cases hi with
    | none => rfl
    | some v => exact clip_eq v n n
theorem places_gen (i j : Nat) : Builtin.Slice.slicePlaces (i : Int) (j : Int) 1 = j - i := by
  unfold Builtin.Slice.slicePlaces
  have h1 : (1 : Int) > 0 := by omega
  simp only [h1, if_true, Int.ediv_one]
  split <;> omega
theorem slicePart_ {v : Value} {o : Option Int} {Q : Option Int → Shared → Prop} (p : IsPart v o) (h : Q o s) : wpAny (model prog w) A (Builtin.Slice.slicePartIndex v) Q E s := by
  cases p with
  | none => exact slicePart_none h
  | int i t => exact slicePart_int h
theorem sliceApplied_gen {sl : Addr} {vl vu : Value} {lo hi : Option Int} {n : Nat} {Q : Int × Int × Nat → Shared → Prop} (hs : s.heap.IsSliceOf sl vl vu .none) (pl : IsPart vl lo) (pu : IsPart vu hi)
    (h : Q (((sIx n 0 lo : Nat) : Int), 1, sIx n n hi - sIx n 0 lo) s) : wpAny (model prog w) A (Builtin.Slice.sliceApplied (.ref sl) (pure (n : Int))) Q E s := by
  obtain ⟨os, hos, hcs, hds⟩ := id hs
  unfold Builtin.Slice.sliceApplied Builtin.Slice.sliceFields
  refine wpAny_bind (wpAny_bind (wpAny_field hos hds (x := vl) rfl (wpAny_bind (wpAny_field hos hds (x := vu) rfl (wpAny_bind (wpAny_field hos hds (x := .none) rfl (wpAny_pure ?_)))))))
  refine wpAny_bind (slicePart_none ?_)
  show wpAny _ _ (if ((1 : Int) == 0) = true then _ else _) _ _ s
  rw [if_neg (by decide)]
  refine wpAny_bind (slicePart_ pl (wpAny_bind (slicePart_ pu (wpAny_bind (wpAny_pure ?_)))))
  show wpAny _ _ (match Builtin.Slice.sliceAdjust lo hi 1 (n : Int) with | (lo, hi) => pure (lo, (1 : Int), Builtin.Slice.slicePlaces lo hi 1)) _ _ s
  rw [adjust_gen lo hi n]
  show wpAny _ _ (pure (((sIx n 0 lo : Nat) : Int), (1 : Int), Builtin.Slice.slicePlaces ((sIx n 0 lo : Nat) : Int) ((sIx n n hi : Nat) : Int) 1)) _ _ s
  rw [places_gen]
  exact wpAny_pure h
theorem pick_gen (xs : Array Value) (i k : Nat) : ((List.range k).filterMap fun (m : Nat) => xs[((i : Int) + (m : Int) * 1).toNat]?).toArray = ((xs.toList.drop i).take k).toArray := by
  have e : (fun (m : Nat) => xs[((i : Int) + (m : Int) * 1).toNat]?) = fun m => xs[i + m]? := by
    funext m
    have : ((i : Int) + (m : Int) * 1).toNat = i + m := by omega
    rw [this]
  rw [e]
  have := pick_run xs i k
  rw [List.filterMap_map] at this
  have e2 : ((fun x => xs[x]?) ∘ fun x => i + x) = fun m => xs[i + m]? := rfl
  rw [e2] at this
  rw [this]
theorem getItem_tuple_cut {t sl : Addr} {items : Array Value} {vl vu : Value} {lo hi : Option Int} {Q : Value → Shared → Prop} (ht : IsTup s.heap t items) (hs : s.heap.IsSliceOf sl vl vu .none) (pl : IsPart vl lo) (pu : IsPart vu hi)
    (hw : ¬ (sIx items.size 0 lo = 0 ∧ sIx items.size items.size hi = items.size))
    (h : Q (.ref s.heap.objs.size) { s with heap := s.heap.push { cls := .type "tuple", data := .seq ((items.toList.drop (sIx items.size 0 lo)).take (sIx items.size items.size hi - sIx items.size 0 lo)).toArray } })
    (hsz : items.size ≤ sizeLine) : wpAny (model prog w) A (getItem (.ref t) (.ref sl)) Q E s := by
  have htake : sizeOk (.seq ((items.toList.drop (sIx items.size 0 lo)).take (sIx items.size items.size hi - sIx items.size 0 lo)).toArray) := by
    show ((items.toList.drop (sIx items.size 0 lo)).take (sIx items.size items.size hi - sIx items.size 0 lo)).toArray.size ≤ sizeLine
    rw [List.size_toArray, List.length_take, List.length_drop, Array.length_toList]
    omega
  have hj : sIx items.size items.size hi ≤ items.size := sIx_le _ _ (Nat.le_refl _) hi
  obtain ⟨os, hos, hcs, hds⟩ := id hs
  have hTs : s.TypeIs (.ref sl) "slice" := ⟨os, hos, hcs⟩
  unfold getItem
  try with_reducible refine wpAny_holding ?_
  first | refine wpAny_bind (wpAny_pure ?_) | skip
  refine wpAny_bind (wpAny_sequenceKey ht.typeIs (by decide) ?_)
  refine wpAny_bind (wpAny_callSpecial?_slot (name := Str.ofString "__getitem__") ht.typeIs PyProof.Rows.slot_tuple_getitem
    (wpAny_call_entry PyProof.Rows.slot_tuple_getitem ht.typeIs entry_tuple_getitem ?_ (args_tuple_getitem _ _)))
  show wpAny _ _ (Builtin.Tuple.tupleItemsOf (.ref t) >>= _) _ _ s
  refine wpAny_bind (tupleItemsOf_ ht ?_)
  refine wpAny_bind (wpAny_typeOf hTs ?_)
  rw [if_pos (by decide)]
  refine wpAny_bind (sliceApplied_gen hs pl pu ?_)
  have hno : ¬ ((((sIx items.size 0 lo : Nat) : Int) == 0 && (1 : Int) == 1 && (sIx items.size items.size hi - sIx items.size 0 lo) == items.size) = true) := by
    intro q
    rw [Bool.and_eq_true, Bool.and_eq_true] at q
    have q1 : ((sIx items.size 0 lo : Nat) : Int) = 0 := eq_of_beq q.1.1
    have q2 : sIx items.size items.size hi - sIx items.size 0 lo = items.size := eq_of_beq q.2
    exact hw ⟨by omega, by omega⟩
  show wpAny _ _ (if (((sIx items.size 0 lo : Nat) : Int) == 0 && (1 : Int) == 1 && (sIx items.size items.size hi - sIx items.size 0 lo) == items.size) = true then _ else _) _ _ s
  rw [if_neg hno, pick_gen]
  first
    | exact wpAny_bind (m := Builtin.Tuple.tupleExact _) (wpAny_newObj_type (wpAny_pure ⟨_, rfl, wpAny_pure h⟩) htake)
    | exact wpAny_bind (m := Builtin.Tuple.tupleExact _) (wpAny_newObj_type (wpAny_bind (wpAny_pure (wpAny_pure ⟨_, rfl, wpAny_pure h⟩))) htake)
    | exact wpAny_bind (wpAny_bind (m := Builtin.Tuple.tupleExact _) (wpAny_newObj_type (wpAny_pure (wpAny_pure ⟨_, rfl, wpAny_pure h⟩)) htake))
    | exact wpAny_bind (wpAny_bind (m := Builtin.Tuple.tupleExact _) (wpAny_newObj_type (wpAny_pure ⟨_, rfl, wpAny_pure h⟩) htake))
end
end HT
namespace L2
open PySem PySem.Spec PyProof.Rows
abbrev TO := St → Hp → (Option Int → Hp → Prop) → Prop
def PO (X : Cx) (e : Option Expr) (t : TO) : Prop :=
  ∀ (pins : List (Addr × Obj)) (s : Shared) (σ : St) (H : Hp) (Q : Option Int → Hp → Prop), Inv X pins σ H s → t σ H Q →
    wpAny (model X.prog X.w) X.A (evalPart e X.env) (fun u s' => ∃ o H', Inv X pins σ H' s' ∧ IsPart u o ∧ Q o H') X.xe s
def tNoPart : TO := fun _ H Q => Q none H
def tPart (t : TE) : TO := fun σ H Q => t σ H fun x H1 => ∃ i, x = .int i ∧ Q (some i) H1
section
variable {X : Cx} {e : Expr} {te : TE} {lo hi : Option Expr} {tl th : TO} {pos p2 : Pos}
theorem po_none : PO X none tNoPart := by
  intro pins s σ H Q I h
  rw [evalPart_none]
  exact wpAny_pure ⟨none, H, I, .none, h⟩
theorem po_some (h : PE X e te) : PO X (some e) (tPart te) := by
  intro pins s σ H Q I hw
  rw [evalPart_some]
  refine thn (h pins s σ H _ I hw) fun u s1 ⟨x, H1, I1, r1, q1⟩ => ?_
  obtain ⟨i, rfl, q⟩ := q1
  obtain ⟨t, rfl⟩ := r1
  exact ⟨some i, H1, I1, .int i t, q⟩
def SlR (X : Cx) (r : V → Option Int → Option Int → Hp → VK → Prop) : Prop :=
  ∀ (pins : List (Addr × Obj)) (s : Shared) (σ : St) (H : Hp) (x : V) (v vl vu : Value) (lo hi : Option Int) (sl : Addr) (Q : VK), Inv X pins σ H s → RelV x v → s.heap.IsSliceOf sl vl vu .none → IsPart vl lo → IsPart vu hi → r x lo hi H Q →
    ∃ T id, typeLookup (.type T) "__getitem__" = pure (some (.builtin id)) ∧ s.TypeIs v T ∧ wpAny (model X.prog X.w) X.A (getItem v (.ref sl)) (EP X pins σ Q) X.xe s
def tSl (r : V → Option Int → Option Int → Hp → VK → Prop) (te : TE) (tl th : TO) : TE := fun σ H Q => te σ H fun x H1 => tl σ H1 fun l H2 => th σ H2 fun u H3 => r x l u H3 Q
theorem pe_slice {r : V → Option Int → Option Int → Hp → VK → Prop} (hr : SlR X r) (he : PE X e te) (hl : PO X lo tl) (hu : PO X hi th) : PE X (.Subscript e (.Slice lo hi none p2) pos) (tSl r te tl th) := by
  intro pins s σ H Q I h
  refine Subscript_ (thn (he pins s σ H _ I h) fun v s1 ⟨x, H1, I1, r1, q1⟩ => ?_)
  refine wpAny_Slice (thn (hl pins s1 σ H1 _ I1 q1) fun vl s2 ⟨l, H2, I2, pl, q2⟩ => thn (hu pins s2 σ H2 _ I2 q2) fun vu s3 ⟨u, H3, I3, pu, q3⟩ => ?_)
  rw [evalPart_none]
  refine wpAny_pure ?_
  have I4 : Inv X pins σ H3 { s3 with heap := s3.heap.push { cls := .type "slice", data := .fields #[vl, vu, .none] } } := I3.kept (t' := s3.toks) fun b ob q => Heap.get?_push_of_some _ q
  obtain ⟨T, id, hT, ht, hg⟩ := hr pins { s3 with heap := s3.heap.push { cls := .type "slice", data := .fields #[vl, vu, .none] } } σ H3 x v vl vu l u s3.heap.objs.size Q I4 r1 (Heap.IsSliceOf.new ..) pl pu q3
  show wpAny (model X.prog X.w) X.A (subscriptTail e (.Slice lo hi none p2) v (.ref s3.heap.objs.size)) (EP X pins σ Q) X.xe { s3 with heap := s3.heap.push { cls := .type "slice", data := .fields #[vl, vu, .none] } }
  exact tail_any (ops := [.ref s3.heap.objs.size, v]) ht hT hg (by with_unfolding_all rfl)
def cutV (xs : List V) (lo hi : Option Int) : List V := (xs.drop (HT.sIx xs.length 0 lo)).take (HT.sIx xs.length xs.length hi - HT.sIx xs.length 0 lo)
theorem cutV_length (xs : List V) (lo hi : Option Int) : (cutV xs lo hi).length ≤ xs.length := by
  unfold cutV
  rw [List.length_take, List.length_drop]
  omega
def rSlT (K : PySem.W.Frag) : V → Option Int → Option Int → Hp → VK → Prop := fun x lo hi H Q => ∃ a xs, x = .ref a ∧ SqT K H a xs ∧
  ¬ (HT.sIx xs.length 0 lo = 0 ∧ HT.sIx xs.length xs.length hi = xs.length) ∧ ∀ p, H p = none → Q (.ref p) (upd H p (.tup (cutV xs lo hi)))
theorem sl_tup : SlR X (rSlT X.K) := by
  intro pins s σ H x v vl vu lo hi sl Q I rx hs pl pu h
  obtain ⟨a, xs, rfl, hx, hw, q⟩ := h
  cases rx
  obtain ⟨its, r, ht, hz⟩ := I.tuple hx
  have hlen : its.toArray.size = xs.length := by rw [List.size_toArray]; exact r.length.symm
  refine ⟨"tuple", _, PyProof.Rows.slot_tuple_getitem.lookup, ht.typeIs, ?_⟩
  refine HT.getItem_tuple_cut ht hs pl pu (by rw [hlen]; exact hw) ?_ (by rw [hlen]; exact hz)
  rw [hlen]
  refine ⟨.ref s.heap.objs.size, _, I.laid (t' := s.toks) (o := .tup (cutV xs lo hi)) (fun b ob q => Heap.get?_push_of_some _ q) (Nat.le_refl _) ?_, rfl, q _ (I.hok.fresh (Nat.le_refl _))⟩
  exact ⟨Nat.le_trans (cutV_length xs lo hi) hz, _, (r.drop (HT.sIx xs.length 0 lo)).take (HT.sIx xs.length xs.length hi - HT.sIx xs.length 0 lo), IsTupP.new _ _⟩
end
end L2
namespace L2
open PySem PySem.Spec PyProof.Rows
def ixN (n : Nat) (i : Int) : Option Nat := if 0 ≤ i then (if i < n then some i.toNat else none) else if -(n : Int) ≤ i then some (i + n).toNat else none
def atI {α : Type} (xs : List α) (i : Int) : Option α := (ixN xs.length i).bind fun j => xs[j]?
theorem ixN_seq {n : Nat} {i : Int} {j : Nat} (h : ixN n i = some j) : seqIndex? i n = some j ∧ j < n ∧ -(n : Int) ≤ i ∧ i < n := by
  unfold ixN at h
  by_cases h0 : 0 ≤ i
  · rw [if_pos h0] at h
    by_cases h1 : i < n
    · rw [if_pos h1] at h
      have e : i.toNat = j := Option.some.inj h
      exact ⟨by rw [seqIndex_of h0 h1, e], by omega, by omega, h1⟩
    · rw [if_neg h1] at h; cases h
  · rw [if_neg h0] at h
    by_cases h1 : -(n : Int) ≤ i
    · rw [if_pos h1] at h
      have e : (i + n).toNat = j := Option.some.inj h
      exact ⟨by rw [seqIndex_neg (by omega) h1, e], by omega, h1, by omega⟩
    · rw [if_neg h1] at h; cases h
theorem atI_get {α : Type} {xs : List α} {i : Int} {v : α} (h : atI xs i = some v) : ∃ j, seqIndex? i xs.length = some j ∧ xs[j]? = some v ∧ j < xs.length ∧ -(xs.length : Int) ≤ i ∧ i < xs.length := by
  unfold atI at h
  cases e : ixN xs.length i with
  | none => rw [e] at h; cases h
  | some j =>
    rw [e] at h
    obtain ⟨h1, h2, h3, h4⟩ := ixN_seq e
    exact ⟨j, h1, h, h2, h3, h4⟩
theorem atI_nat {α : Type} {xs : List α} {j : Nat} {v : α} (h : xs[j]? = some v) : atI xs (j : Int) = some v := by
  have hj : j < xs.length := (List.getElem?_eq_some_iff.mp h).1
  have e : ixN xs.length (j : Int) = some j := by
    unfold ixN
    rw [if_pos (by omega), if_pos (by omega)]; simp
  unfold atI; rw [e]; exact h
def PlainIx (b : Expr) : Prop := ∀ o i, subscripted b false o i = operate [o, i] (getItem o i)
def IxR (X : Cx) (r : R2) : Prop :=
  ∀ (value slice : Expr) (pins : List (Addr × Obj)) (s : Shared) (σ : St) (H : Hp) (x y : V) (v u : Value) (Q : VK), Inv X pins σ H s → RelV x v → RelV y u → r x y H Q →
    subscripted slice false v u = operate [v, u] (getItem v u) → wpAny (model X.prog X.w) X.A (subscriptTail value slice v u) (EP X pins σ Q) X.xe s
def MtR (X : Cx) (id : String) (r : V → List V → Hp → VK → Prop) : Prop :=
  ∀ (pins : List (Addr × Obj)) (s : Shared) (σ : St) (H : Hp) (x : V) (xs : List V) (v : Value) (us : List Value) (Q : VK), Inv X pins σ H s → RelV x v → Vals xs us → r x xs H Q →
    wpAny (model X.prog X.w) X.A (call (.builtin id) (v :: us)) (EP X pins σ Q) X.xe s
section
variable {X : Cx} {a b : Expr} {ta tb : TE} {pos : Pos}
theorem pe_ix {r : R2} (hr : IxR X r) (ha : PE X a ta) (hb : PE X b tb) (hs : PlainIx b) : PE X (.Subscript a b pos) (tOp r ta tb) := by
  intro pins s σ H Q I h
  exact Subscript_ (binT ha hb I h fun v u s2 x y H2 I2 rx ry q => hr a b pins s2 σ H2 x y v u Q I2 rx ry q (hs _ _))
def rIxL (K : PySem.W.Frag) : R2 := fun x y H Q => ∃ p xs i v, x = .ref p ∧ y = .int i ∧ SqL K H p xs ∧ atI xs i = some v ∧ Q v H
def rIxT (K : PySem.W.Frag) : R2 := fun x y H Q => ∃ p xs i v, x = .ref p ∧ y = .int i ∧ SqT K H p xs ∧ atI xs i = some v ∧ Q v H
def rIxS : R2 := fun x y H Q => ∃ z i c, x = .str z ∧ y = .int i ∧ z.length ≤ sizeLine ∧ atI z.cps.toList i = some c ∧ Q (.str ⟨#[c]⟩) H
theorem ix_list : IxR X (rIxL X.K) := by
  intro value slice pins s σ H x y v u Q I rx ry h hs
  obtain ⟨p, xs, i, z, rfl, rfl, hq, he, q⟩ := h
  cases rx
  obtain ⟨t, rfl⟩ := ry
  obtain ⟨its, r, pl, hz⟩ := I.list hq
  obtain ⟨j, h1, h2, h3, h4, h5⟩ := atI_get he
  obtain ⟨w, ew, rw'⟩ := r.get h2
  have hl := r.length
  have hn := line63
  have fin : EP X pins σ Q w s := ⟨z, H, I, rw', q⟩
  by_cases h0 : 0 ≤ i
  · have hj : i.toNat = j := by
      rw [seqIndex_of h0 h5] at h1
      exact Option.some.inj h1
    exact item_listR pl.isList h0 (by omega) (by rw [hj]; simpa using ew) fin hs
  · have hj : (i + (its.toArray.size : Int)).toNat = j := by
      rw [seqIndex_neg (by omega) h4] at h1
      rw [List.size_toArray, ← hl]
      exact Option.some.inj h1
    exact subscriptTail_builtinR (x := w) pl.isList.typeIs slot_list_getitem.lookup
      (wpAny_getItem_list_neg (Q := fun r s' => r = w ∧ EP X pins σ Q r s') pl.isList (by omega) (by rw [List.size_toArray] <;> omega) (by omega) (by rw [hj]; simpa using ew) ⟨rfl, fin⟩) hs
theorem ix_tup : IxR X (rIxT X.K) := by
  intro value slice pins s σ H x y v u Q I rx ry h hs
  obtain ⟨p, xs, i, z, rfl, rfl, hq, he, q⟩ := h
  cases rx
  obtain ⟨t, rfl⟩ := ry
  obtain ⟨its, r, pl, hz⟩ := I.tuple hq
  obtain ⟨j, h1, h2, h3, h4, h5⟩ := atI_get he
  obtain ⟨w, ew, rw'⟩ := r.get h2
  have hl := r.length
  have hn := line63
  have fin : EP X pins σ Q w s := ⟨z, H, I, rw', q⟩
  exact subscriptTail_builtinR (x := w) pl.typeIs slot_tuple_getitem.lookup
    (getItem_tuple (j := j) (Q := fun r s' => r = w ∧ EP X pins σ Q r s') pl (by omega) (by omega) (by rw [List.size_toArray, ← hl]; exact h1) (by simpa using ew) ⟨rfl, fin⟩) hs
theorem ix_str : IxR X rIxS := by
  intro value slice pins s σ H x y v u Q I rx ry h hs
  obtain ⟨z, i, c, rfl, rfl, hz, he, q⟩ := h
  obtain ⟨t, rfl⟩ := rx
  obtain ⟨t', rfl⟩ := ry
  obtain ⟨j, h1, h2, h3, h4, h5⟩ := atI_get he
  have hl : z.cps.toList.length = z.length := by simp [Str.length]
  rw [hl] at h1 h4 h5
  have hn := line63
  exact tail_any (typeIs_str s z t) slot_str_getitem.lookup (getItem_str (c := c) (by
    have e1 : decide (i < -(2 ^ 63 : Int)) = false := decide_eq_false (by omega)
    have e2 : decide (i ≥ 2 ^ 63) = false := decide_eq_false (by omega)
    rw [e1, e2, Bool.or_false]) (by rw [h1]; simpa using h2) ⟨.str ⟨#[c]⟩, H, I.tok _, ⟨_, rfl⟩, q⟩) hs
theorem mapSeq_set (its : List Value) (n j : Nat) (u : Value) : Obj.mapSeq (·.setIfInBounds j u) { cls := .type "list", data := .seq its.toArray n } = { cls := .type "list", data := .seq (its.set j u).toArray n } := by
  simp [Obj.mapSeq]
theorem Inv.lst {pins : List (Addr × Obj)} {σ : St} {H : Hp} {s : Shared} {p : Addr} {xs : List V} (I : Inv X pins σ H s) (h : H p = some (.lst xs)) :
    ∃ (its : List Value) (n : Nat), Vals xs its ∧ s.heap.get? p = some { cls := .type "list", data := .seq its.toArray n } ∧ xs.length ≤ sizeLine := by
  obtain ⟨z, its, n, r, e⟩ := I.hok p _ h
  exact ⟨its, n, r, e, z⟩
theorem Inv.lstUpd {pins : List (Addr × Obj)} {σ : St} {H : Hp} {s : Shared} {p : Addr} {xs ys : List V} {its its' : List Value} {n n' : Nat} {f : Obj → Obj} (I : Inv X pins σ H s) (h : H p = some (.lst xs))
    (ho : s.heap.get? p = some { cls := .type "list", data := .seq its.toArray n }) (hf : f { cls := .type "list", data := .seq its.toArray n } = { cls := .type "list", data := .seq its'.toArray n' }) (r : Vals ys its') (hz : ys.length ≤ sizeLine) (t : Nat) :
    Inv X pins σ (upd H p (.lst ys)) { s with heap := s.heap.update p f, toks := t } := by
  have e : (s.heap.update p f).get? p = some { cls := .type "list", data := .seq its'.toArray n' } := by
    rw [Heap.get?_update_self f ho (by rw [hf] <;> rfl), hf]
  refine I.write (x := p) (e := p) (by rw [h]; trivial) (.inl rfl) (fun b u hb q => (Heap.get?_update_other _ _ (Ne.symm hb)).trans q) ⟨_, e⟩ ?_
  exact ⟨hz, its', n', r, e⟩
def rSetL : V → V → V → Hp → (Hp → Prop) → Prop := fun o i v H Q => ∃ p xs k j, o = .ref p ∧ i = .int k ∧ H p = some (.lst xs) ∧ ixN xs.length k = some j ∧ Q (upd H p (.lst (xs.set j v)))
theorem set_list : PSet X rSetL := by
  intro pins s σ H o i v ov iv u Q I ro ri rv h
  obtain ⟨p, xs, k, j, rfl, rfl, hp, hj, q⟩ := h
  cases ro
  obtain ⟨t, rfl⟩ := ri
  obtain ⟨its, n, r, ho, hz⟩ := I.lst hp
  obtain ⟨h1, h2, h3, h4⟩ := ixN_seq hj
  have hl := r.length
  have hn := line63
  have I' : Inv X pins σ (upd H p (.lst (xs.set j v))) { s with heap := s.heap.update p (Obj.mapSeq (·.setIfInBounds j u)) } :=
    I.lstUpd hp ho (mapSeq_set its n j u) (r.set rv j) (by rw [List.length_set]; exact hz) s.toks
  by_cases h0 : 0 ≤ k
  · have hk : k.toNat = j := by
      rw [seqIndex_of h0 h4] at h1
      exact Option.some.inj h1
    exact PySem.W.ki_setAt ho h0 (by omega) (by rw [List.size_toArray, ← hl]; exact h4) (by rw [hk]; exact ⟨_, I', q⟩)
  · have hk : (k + (its.toArray.size : Int)).toNat = j := by
      rw [seqIndex_neg (by omega) h3] at h1
      rw [List.size_toArray, ← hl]
      exact Option.some.inj h1
    exact PySem.W.ki_setBack ho (by omega) (by rw [List.size_toArray, ← hl]; exact h3) (by omega) (by rw [hk]; exact ⟨_, I', q⟩)
theorem slice_bounds (lo hi : Option Int) (n : Nat) : (sliceBounds lo hi none n).1 = ((HT.sIx n 0 lo : Nat) : Int) ∧ (sliceBounds lo hi none n).2.1 = ((HT.sIx n n hi : Nat) : Int) ∧ (sliceBounds lo hi none n).2.2 = 1 := by
  refine ⟨?_, ?_, rfl⟩
  · cases lo with
    | none => simp [sliceBounds, HT.sIx]
    | some i =>
      simp only [sliceBounds, HT.sIx, Option.getD_none, show (1 : Int) > 0 by decide, if_true]
      by_cases h : i < 0
      · simp only [h, if_true] <;> omega
      · simp only [h, if_false] <;> omega
  · cases hi with
    | none => simp [sliceBounds, HT.sIx]
    | some i =>
      simp only [sliceBounds, HT.sIx, Option.getD_none, show (1 : Int) > 0 by decide, if_true]
      by_cases h : i < 0
      · simp only [h, if_true] <;> omega
      · simp only [h, if_false] <;> omega
theorem slicePick_cut (its : List Value) (lo hi : Option Int) : slicePick its.toArray lo hi none = ((its.drop (HT.sIx its.length 0 lo)).take (HT.sIx its.length its.length hi - HT.sIx its.length 0 lo)).toArray := by
  obtain ⟨h1, h2, h3⟩ := slice_bounds lo hi its.toArray.size
  unfold slicePick
  rw [h1, h2, h3]
  simp only [sliceRange_one, pick_run, List.size_toArray] <;> rfl
def rSlL (K : PySem.W.Frag) : V → Option Int → Option Int → Hp → VK → Prop := fun x lo hi H Q => ∃ a xs, x = .ref a ∧ SqL K H a xs ∧ ∀ p, H p = none → Q (.ref p) (upd H p (.lst (cutV xs lo hi)))
theorem sl_list : SlR X (rSlL X.K) := by
  intro pins s σ H x v vl vu lo hi sl Q I rx hs pl pu h
  obtain ⟨a, xs, rfl, hx, q⟩ := h
  cases rx
  obtain ⟨its, r, ht, hz⟩ := I.list hx
  have hlen := r.length
  refine ⟨"list", _, slot_list_getitem.lookup, ht.isList.typeIs, ?_⟩
  refine wpAny_getItem_list_slice ht.isList hs pl pu .none (by simp) ?_ (by rw [List.size_toArray] <;> omega)
  rw [slicePick_cut, ← hlen]
  refine ⟨.ref s.heap.objs.size, _, I.laid (t' := s.toks) (o := .lst (cutV xs lo hi)) (fun b ob q => Heap.get?_push_of_some _ q) (Nat.le_refl _) ?_, rfl, q _ (I.hok.fresh (Nat.le_refl _))⟩
  exact ⟨Nat.le_trans (cutV_length xs lo hi) hz, _, 0, (r.drop (HT.sIx xs.length 0 lo)).take (HT.sIx xs.length xs.length hi - HT.sIx xs.length 0 lo), Heap.get?_push_size _ rfl⟩
def flatV : V → Bool
  | .non => true
  | .bl _ => true
  | .int _ => true
  | .str _ => true
  | _ => false
def eqV : V → V → Bool
  | .non, .non => true
  | .bl a, .bl b => a == b
  | .bl a, .int b => (if a then 1 else 0) == b
  | .int a, .bl b => a == (if b then 1 else 0)
  | .int a, .int b => a == b
  | .str a, .str b => a == b
  | _, _ => false
theorem eqAt_V {A : Around} {s : Shared} {y x : V} {u v : Value} (ry : RelV y u) (rx : RelV x v) (fy : flatV y = true) (fx : flatV x = true) : SeqAt.EqAt A s u v (eqV y x) := by
  cases y with
  | non =>
    cases ry
    cases x with
    | non => cases rx; exact SeqAt.EqAt.same _
    | bl b => cases rx; exact SeqAt.EqAt.none_bool b
    | int b => obtain ⟨t, rfl⟩ := rx; exact SeqAt.EqAt.none_int b t
    | str b => obtain ⟨t, rfl⟩ := rx; exact SeqAt.EqAt.none_str b t
    | _ => exact absurd (show false = true from fx) Bool.false_ne_true
  | bl a =>
    cases ry
    cases x with
    | non => cases rx; exact SeqAt.EqAt.bool_none a
    | bl b => cases rx; exact SeqAt.EqAt.bool_bool a b
    | int b => obtain ⟨t, rfl⟩ := rx; exact SeqAt.EqAt.bool_int a b t
    | str b => obtain ⟨t, rfl⟩ := rx; exact SeqAt.EqAt.bool_str a b t
    | _ => exact absurd (show false = true from fx) Bool.false_ne_true
  | int a =>
    obtain ⟨t', rfl⟩ := ry
    cases x with
    | non => cases rx; exact SeqAt.EqAt.int_none a t'
    | bl b => cases rx; exact SeqAt.EqAt.int_bool a t' b
    | int b => obtain ⟨t, rfl⟩ := rx; exact SeqAt.EqAt.int_int a t' b t
    | str b => obtain ⟨t, rfl⟩ := rx; exact SeqAt.EqAt.int_str a t' b t
    | _ => exact absurd (show false = true from fx) Bool.false_ne_true
  | str a =>
    obtain ⟨t', rfl⟩ := ry
    cases x with
    | non => cases rx; exact SeqAt.EqAt.str_none a t'
    | bl b => cases rx; exact SeqAt.EqAt.str_bool a t' b
    | int b => obtain ⟨t, rfl⟩ := rx; exact SeqAt.EqAt.str_int a t' b t
    | str b => obtain ⟨t, rfl⟩ := rx; exact SeqAt.EqAt.str_str a t' b t
    | _ => exact absurd (show false = true from fx) Bool.false_ne_true
  | _ => exact absurd (show false = true from fy) Bool.false_ne_true
def eqU (x : V) (u : Value) : Bool := match u with
  | .none => eqV .non x
  | .bool b => eqV (.bl b) x
  | .int i _ => eqV (.int i) x
  | .str z _ => eqV (.str z) x
  | _ => false
theorem eqU_of {x y : V} {u : Value} (r : RelV y u) (f : flatV y = true) : eqU x u = eqV y x := by
  cases y with
  | non => cases r; rfl
  | bl b => cases r; rfl
  | int i => obtain ⟨t, rfl⟩ := r; rfl
  | str z => obtain ⟨t, rfl⟩ := r; rfl
  | _ => exact absurd (show false = true from f) Bool.false_ne_true
theorem any_eqU {x : V} : ∀ {xs : List V} {us : List Value}, Vals xs us → xs.all flatV = true → us.any (eqU x) = xs.any fun y => eqV y x
  | _, _, .nil, _ => rfl
  | y :: xs, u :: us, .cons r t, f => by
    rw [List.all_cons, Bool.and_eq_true] at f
    rw [List.any_cons, List.any_cons, eqU_of r f.1, any_eqU t f.2]
theorem mem_eqAt {A : Around} {s : Shared} {x : V} {v : Value} (rx : RelV x v) (fx : flatV x = true) : ∀ {xs : List V} {us : List Value}, Vals xs us → xs.all flatV = true → ∀ u ∈ us, SeqAt.EqAt A s u v (eqU x u)
  | _, _, .nil, _ => fun u hu => by cases hu
  | y :: xs, u :: us, .cons r t, f => fun u' hu => by
    rw [List.all_cons, Bool.and_eq_true] at f
    rcases List.mem_cons.mp hu with rfl | hu
    · rw [eqU_of r f.1]; exact eqAt_V r rx f.1 fx
    · exact mem_eqAt rx fx t f.2 u' hu
def inV (x : V) (xs : List V) : Bool := xs.any fun y => eqV y x
def rIn (K : PySem.W.Frag) (neg : Bool) : R2 := fun x y H Q => ∃ p xs, y = .ref p ∧ (SqL K H p xs ∨ SqT K H p xs) ∧ flatV x = true ∧ xs.all flatV = true ∧ Q (.bl (if neg then !inV x xs else inV x xs)) H
theorem op_in_seq : OpR X (compareOp .In) (rIn X.K false) := by
  intro pins s σ H x y v u Q I rx ry h
  obtain ⟨p, xs, rfl, hq, fx, fs, q⟩ := h
  cases ry
  rcases hq with hq | hq
  · obtain ⟨its, r, pl, hz⟩ := I.list hq
    refine SeqAt.in_listAt (eqU x) pl.isList (fun w hw => mem_eqAt rx fx r fs w (by simpa using hw)) ⟨.bl _, H, I, rfl, ?_⟩
    rw [show its.toArray.any (eqU x) = its.any (eqU x) by simp, any_eqU r fs]
    exact q
  · obtain ⟨its, r, pl, hz⟩ := I.tuple hq
    refine SeqAt.in_tupleAt (eqU x) pl (fun w hw => mem_eqAt rx fx r fs w (by simpa using hw)) ⟨.bl _, H, I, rfl, ?_⟩
    rw [show its.toArray.any (eqU x) = its.any (eqU x) by simp, any_eqU r fs]
    exact q
theorem op_notIn_str : OpR X (compareOp .NotIn) (fun x y H Q => ∃ i j, x = .str i ∧ y = .str j ∧ Q (.bl (!(!(Builtin.Str.occurrences j i 0 j.length 1).isEmpty))) H) := by
  intro pins s σ H x y v u Q I rx ry h
  obtain ⟨i, j, rfl, rfl, q⟩ := h
  obtain ⟨t, rfl⟩ := rx
  obtain ⟨t', rfl⟩ := ry
  exact notIn_str ⟨.bl _, H, I, rfl, q⟩
theorem call_len_seq : CallR X (.builtin "len") (fun xs H Q => ∃ p ys, xs = [.ref p] ∧ (SqL X.K H p ys ∨ SqT X.K H p ys) ∧ Q (.int ys.length) H) := by
  intro pins s σ H xs us Q I r h
  obtain ⟨p, ys, rfl, hq, q⟩ := h
  obtain ⟨u, rfl, rx⟩ := vals1 r
  cases rx
  have hn := line63
  rcases hq with hq | hq
  · obtain ⟨its, r', pl, hz⟩ := I.list hq
    have hlen := r'.length
    exact Calls.call_len_list pl.isList (by simp only [List.size_toArray] <;> omega) ⟨.int ys.length, H, I.tok _, ⟨s.toks + 1, by rw [List.size_toArray, hlen]⟩, q⟩
  · obtain ⟨its, r', pl, hz⟩ := I.tuple hq
    have hlen := r'.length
    exact len_tuple pl (by simp only [List.size_toArray] <;> omega) ⟨.int ys.length, H, I.tok _, ⟨s.toks + 1, by rw [List.size_toArray, hlen]⟩, q⟩
theorem call_len_str : CallR X (.builtin "len") (fun xs H Q => ∃ z, xs = [.str z] ∧ z.length ≤ sizeLine ∧ Q (.int z.length) H) := by
  intro pins s σ H xs us Q I r h
  obtain ⟨z, rfl, hz, q⟩ := h
  obtain ⟨u, rfl, t, rfl⟩ := vals1 r
  have hn := line63
  exact len_str (by omega) ⟨.int z.length, H, I.tok _, ⟨_, rfl⟩, q⟩
theorem call_list_of : CallR X (.type "list") (fun xs H Q => ∃ p ys, xs = [.ref p] ∧ (SqL X.K H p ys ∨ SqT X.K H p ys) ∧ ∀ l, H l = none → Q (.ref l) (upd H l (.lst ys))) := by
  intro pins s σ H xs us Q I r h
  obtain ⟨p, ys, rfl, hq, q⟩ := h
  obtain ⟨u, rfl, rx⟩ := vals1 r
  cases rx
  have fin : ∀ (its : List Value), Vals ys its → ys.length ≤ sizeLine → ∀ (h' : Heap) (c' : Nat), (∀ b o', s.heap.get? b = some o' → h'.get? b = some o') →
      h'.get? s.heap.objs.size = some { cls := .type "list", dict := none, data := .seq its.toArray c', slots := #[] } → EP X pins σ Q (.ref s.heap.objs.size) { s with heap := h' } := fun its r' hz h' c' kp e =>
    ⟨.ref s.heap.objs.size, _, I.laid (t' := s.toks) kp (Nat.le_refl _) (show ObjOk X.prog X.w _ h' _ (.lst ys) from ⟨hz, its, c', r', e⟩), rfl, q _ (I.hok.fresh (Nat.le_refl _))⟩
  rcases hq with hq | hq
  · obtain ⟨its, r', pl, hz⟩ := I.list hq
    have hlen := r'.length
    obtain ⟨o, ho, hc, n, hd⟩ := pl.isList
    exact call_list_seq p (.inl rfl) ho hc hd (fun h' c' kp e => fin its r' hz h' c' kp e) (by simp only [List.size_toArray] <;> omega)
  · obtain ⟨its, r', pl, hz⟩ := I.tuple hq
    have hlen := r'.length
    obtain ⟨o, ho, hc, n, hd⟩ := pl
    exact call_list_seq p (.inr rfl) ho hc hd (fun h' c' kp e => fin its r' hz h' c' kp e) (by simp only [List.size_toArray] <;> omega)
theorem call_tuple_of : CallR X (.type "tuple") (fun xs H Q => ∃ p ys, xs = [.ref p] ∧ ((SqL X.K H p ys ∧ ∀ l, H l = none → Q (.ref l) (upd H l (.tup ys))) ∨ (SqT X.K H p ys ∧ Q (.ref p) H))) := by
  intro pins s σ H xs us Q I r h
  obtain ⟨p, ys, rfl, h⟩ := h
  obtain ⟨u, rfl, rx⟩ := vals1 r
  cases rx
  rcases h with ⟨hq, q⟩ | ⟨hq, q⟩
  · obtain ⟨its, r', pl, hz⟩ := I.list hq
    have hlen := r'.length
    refine call_tuple_list pl.isList (fun h' kp => ?_) (by simp only [List.size_toArray] <;> omega)
    have I1 : Inv X pins σ H { s with heap := h' } := I.kept (t' := s.toks) kp
    have I2 : Inv X pins σ (upd H h'.objs.size (.tup ys)) { s with heap := h'.push { cls := .type "tuple", data := .seq its.toArray } } :=
      I1.laid (t' := s.toks) (fun b o e => Heap.get?_push_of_some _ e) (Nat.le_refl _) (show ObjOk X.prog X.w _ _ _ (.tup ys) from ⟨hz, its, r', IsTupP.new _ _⟩)
    exact ⟨.ref h'.objs.size, _, I2, rfl, q _ (I1.hok.fresh (Nat.le_refl _))⟩
  · obtain ⟨its, r', pl, hz⟩ := I.tuple hq
    exact call_tuple_same pl ⟨.ref p, H, I, rfl, q⟩
def tyV (K : PySem.W.Frag) (T : String) (x : V) (H : Hp) : Prop := match x with
  | .str _ => T = "str"
  | .int _ => T = "int"
  | .ref p => (T = "list" ∧ ∃ xs, SqL K H p xs) ∨ (T = "tuple" ∧ ∃ o, K.lookup p = some o ∧ o.cls = .type "tuple" ∧ o.dict = none) ∨
      (T = "dict" ∧ ((∃ kvs, H p = some (.dK kvs)) ∨ ∃ kvs, H p = some (.dT kvs))) ∨ (T = "set" ∧ ∃ S n, H p = some (.set S n))
  | _ => False
theorem tyV_is {pins : List (Addr × Obj)} {σ : St} {H : Hp} {s : Shared} {T : String} {x : V} {v : Value} (I : Inv X pins σ H s) (r : RelV x v) (ty : tyV X.K T x H) :
    s.TypeIs v T ∧ ∀ a, v = .ref a → ∃ ob, s.heap.get? a = some ob ∧ ob.dict = none := by
  cases x with
  | str z =>
    obtain ⟨t, rfl⟩ := r
    cases (show T = "str" from ty)
    exact ⟨typeIs_str s z t, fun _ e => nomatch e⟩
  | int i =>
    obtain ⟨t, rfl⟩ := r
    cases (show T = "int" from ty)
    exact ⟨typeIs_int s i t, fun _ e => nomatch e⟩
  | ref p =>
    cases r
    rcases ty with ⟨rfl, xs, hq⟩ | ⟨rfl, o, hk, hc, hd⟩ | ⟨rfl, hk⟩ | ⟨rfl, S, n, hk⟩
    · obtain ⟨its, _, pl, _⟩ := I.list hq
      refine ⟨pl.isList.typeIs, fun a e => ?_⟩
      cases e
      obtain ⟨o, n, e, c, hd, _⟩ := pl
      exact ⟨o, e, hd⟩
    · refine ⟨⟨o, I.kIn p o hk, hc⟩, fun a e => ?_⟩
      cases e
      exact ⟨o, I.kIn _ o hk, hd⟩
    · have z : ∃ o, s.heap.get? p = some o ∧ o.ExactDict := by
        rcases hk with ⟨kvs, hk⟩ | ⟨kvs, hk⟩
        · obtain ⟨_, _, _, _, o, _, _, e, ex, _⟩ := I.hok p _ hk
          exact ⟨o, e, ex⟩
        · obtain ⟨_, _, _, _, o, _, _, e, ex, _⟩ := I.hok p _ hk
          exact ⟨o, e, ex⟩
      obtain ⟨o, e, ex⟩ := z
      refine ⟨⟨o, e, ex.1⟩, fun a e2 => ?_⟩
      cases e2
      exact ⟨o, e, ex.2.1⟩
    · obtain ⟨o, _, _, _, e, ex, _⟩ := I.hok p _ hk
      refine ⟨⟨o, e, ex.1⟩, fun a e2 => ?_⟩
      cases e2
      exact ⟨o, e, ex.2.1⟩
  | _ => exact False.elim ty
def tBM0 (K : PySem.W.Frag) (T : String) (r : V → List V → Hp → VK → Prop) (to : TE) : TE := fun σ H Q => to σ H fun x H1 => tyV K T x H1 ∧ r x [] H1 Q
def tBM (K : PySem.W.Frag) (T : String) (r : V → List V → Hp → VK → Prop) (to : TE) (t : TA) : TE := fun σ H Q => to σ H fun x H1 => tyV K T x H1 ∧ t σ H1 fun xs H2 => r x xs H2 Q
variable {o e : Expr} {es : List Expr} {to : TE} {t : TA} {name : Str} {apos cpos : Pos} {T id : String} {r : V → List V → Hp → VK → Prop}
theorem pe_bm0 (pa : PlainAttrs T) (slot : Slot T name id) (hty : typeOf (.builtin id) = pure (.type "method_descriptor")) (hm : MtR X id r) (ho : PE X o to)
    (hbase : attributeBase o name X.env (eval o X.env) = eval o X.env := by rfl) (hline : (apos.endLine == cpos.line) = true := by rfl) : PE X (.Call (.Attribute o name apos) [] [] cpos) (tBM0 X.K T r to) := by
  intro pins s σ H Q I h
  refine wpAny_Call_method0_late hbase hline (thn (ho pins s σ H _ I h) fun v s1 ⟨x, H1, I1, r1, ty, q1⟩ => ?_)
  obtain ⟨h1, h2⟩ := tyV_is I1 r1 ty
  exact ⟨T, id, pa, slot, hty, h1, h2, Calls.callWith_builtin rfl (PySem.evalArgs_none (hm pins s1 σ H1 x [] v [] Q I1 r1 .nil q1))⟩
theorem pe_bm (pa : PlainAttrs T) (slot : Slot T name id) (hty : typeOf (.builtin id) = pure (.type "method_descriptor")) (hm : MtR X id r) (ho : PE X o to) (ha : PA X (e :: es) t)
    (hbase : attributeBase o name X.env (eval o X.env) = eval o X.env := by rfl)
    (hfew : ((backTo cpos (starEach (e :: es) X.env)).all (fun x => !x.1) && (backToKw cpos (keywordEach [] X.env)).all (fun x => x.1.isSome)
      && decide ((e :: es).length + ([] : List Keyword).length + (if ([] : List Keyword).isEmpty then 0 else 1) < 30)) = true := by rfl)
    (hline : (apos.endLine == cpos.line) = true := by rfl) (hs : starEach (e :: es) X.env = (false, eval e X.env) :: starEach es X.env := by rfl) (hplain : (backTo cpos (starEach es X.env)).any (·.1) = false := by rfl) :
    PE X (.Call (.Attribute o name apos) (e :: es) [] cpos) (tBM X.K T r to t) := by
  intro pins s σ H Q I h
  refine wpAny_Call_method_late hbase hfew hline rfl (thn (ho pins s σ H _ I h) fun v s1 ⟨x, H1, I1, r1, ty, q1⟩ => ?_)
  obtain ⟨h1, h2⟩ := tyV_is I1 r1 ty
  refine ⟨T, id, pa, slot, hty, h1, h2, ?_⟩
  have hA := ha cpos pins s1 σ H1 _ I1 q1
  rw [hs] at hA ⊢
  refine Calls.callWith_builtin (by show (false || (backTo cpos (starEach es X.env)).any (·.1)) = false; rw [hplain] <;> rfl) (Calls.evalArgs_plain ?_)
  exact thn hA fun us s2 ⟨vs, H2, I2, r2, q2⟩ => hm pins s2 σ H2 x vs v us Q I2 r1 r2 q2
/- xs.append(e), list.index on a module's tuple .. are MtR facts of 06m -/
end
end L2
namespace L2
open PySem PySem.Spec PyProof.Rows
def MtM (X : Cx) (id : String) (r : V → List V → Hp → VK → Prop) : Prop :=
  ∀ (pins : List (Addr × Obj)) (s : Shared) (σ : St) (H : Hp) (x : V) (xs : List V) (v : Value) (us : List Value) (Q : VK), Inv X pins σ H s → RelV x v → Vals xs us → r x xs H Q →
    wpAny (model X.prog X.w) X.A (call (.builtin id) (v :: us)) (EP X pins σ Q) X.xe s
theorem Vals.one : ∀ {x : V} {us : List Value}, Vals [x] us → ∃ u, us = [u] ∧ RelV x u
  | _, _, .cons r .nil => ⟨_, rfl, r⟩
theorem Vals.zero : ∀ {us : List Value}, Vals [] us → us = []
  | _, .nil => rfl
theorem Vals.eraseIdx : ∀ {xs : List V} {us : List Value} (i : Nat), Vals xs us → Vals (xs.eraseIdx i) (us.eraseIdx i)
  | _, _, _, .nil => .nil
  | _, _, 0, .cons _ t => t
  | _, _, i + 1, .cons r t => .cons r (Vals.eraseIdx i t)
theorem Vals.reverse {xs : List V} {us : List Value} (h : Vals xs us) : Vals xs.reverse us.reverse := by
  induction h with
  | nil => exact .nil
  | cons r t ih => rw [List.reverse_cons, List.reverse_cons]; exact Vals.append ih (.cons r .nil)
theorem len_erase {α : Type} : ∀ (l : List α) (i : Nat), (l.eraseIdx i).length ≤ l.length
  | [], _ => Nat.le_refl _
  | _ :: _, 0 => Nat.le_succ _
  | _ :: r, i + 1 => Nat.succ_le_succ (len_erase r i)
section
variable {X : Cx} {pins : List (Addr × Obj)} {σ : St} {H : Hp} {s : Shared} {l b : Addr} {xs ys zs : List V}
theorem Inv.lset {its its' : List Value} {n : Nat} {f : Array Value → Array Value} {t' : Nat} (I : Inv X pins σ H s) (hH : H l = some (.lst xs))
    (e : s.heap.get? l = some { cls := .type "list", data := .seq its.toArray n }) (hf : f its.toArray = its'.toArray) (hv : Vals ys its') (hz : ys.length ≤ sizeLine) :
    Inv X pins σ (upd H l (.lst ys)) { s with heap := s.heap.update l (Obj.mapSeq f), toks := t' } := by
  have q := PySem.IsL.update e f
  rw [hf] at q
  refine I.write (x := l) (e := l) (by rw [hH]; exact trivial) (.inl rfl) (fun b' u hb hu => (Heap.get?_update_other s.heap (Obj.mapSeq f) (Ne.symm hb)).trans hu) ⟨_, q⟩ ?_
  exact ⟨hz, its', _, hv, q⟩
theorem Inv.lnew {its : List Value} {t' : Nat} (I : Inv X pins σ H s) (hv : Vals ys its) (hz : ys.length ≤ sizeLine) :
    Inv X pins σ (upd H s.heap.objs.size (.lst ys)) { s with heap := s.heap.push { cls := .type "list", data := .seq its.toArray }, toks := t' } :=
  I.laid (fun _ _ q => Heap.get?_push_of_some _ q) (Nat.le_refl _) ⟨hz, its, 0, hv, Heap.get?_push_size _ rfl⟩
theorem Inv.fresh (I : Inv X pins σ H s) : H s.heap.objs.size = none := I.hok.fresh (Nat.le_refl _)
theorem Inv.lstM (I : Inv X pins σ H s) (hH : H l = some (.lst xs)) : xs.length ≤ sizeLine ∧ ∃ (its : List Value) (n : Nat), Vals xs its ∧ xs.length = its.length ∧ s.heap.get? l = some { cls := .type "list", data := .seq its.toArray n } := by
  obtain ⟨z, its, n, r, e⟩ := I.hok l _ hH
  exact ⟨z, its, n, r, r.length, e⟩
theorem notLongL {n : Nat} (h : n ≤ sizeLine) : Builtin.List.listTooLong n = false := by
  unfold Builtin.List.listTooLong
  exact decide_eq_false (by omega)
end
section
variable {X : Cx}
def rAppend : V → List V → Hp → VK → Prop := fun x vs H Q => ∃ l xs y, x = .ref l ∧ vs = [y] ∧ H l = some (.lst xs) ∧ xs.length < sizeLine ∧ Q .non (upd H l (.lst (xs ++ [y])))
theorem mt_append : MtM X "list.append" rAppend := by
  intro pins s σ H x vs v us Q I rx rv h
  obtain ⟨l, xs, y, rfl, rfl, hH, hz, q⟩ := h
  cases rx
  obtain ⟨u, rfl, ru⟩ := rv.one
  obtain ⟨z, its, n, r, hl, e⟩ := I.lstM hH
  refine call_meets F.slot_list_append ⟨_, e, rfl⟩ F.entry_list_append (F.args_list_append_2 _ _) (PySem.list_append l its.toArray n u (by rw [List.size_toArray]; omega)) ⟨e, ?_⟩
  refine ⟨.non, _, I.lset (its' := its ++ [u]) hH e (by simp) (r.append (.cons ru .nil)) ?_, rfl, q⟩
  rw [List.length_append, List.length_singleton]
  omega
def rPopAt : V → List V → Hp → VK → Prop := fun x vs H Q => ∃ l xs i k y, x = .ref l ∧ vs = [.int i] ∧ H l = some (.lst xs) ∧ -(2 ^ 63) ≤ i ∧ i < 2 ^ 63 ∧ seqIndex? i xs.length = some k ∧ xs[k]? = some y ∧ Q y (upd H l (.lst (xs.eraseIdx k)))
theorem mt_popAt : MtM X "list.pop" rPopAt := by
  intro pins s σ H x vs v us Q I rx rv h
  obtain ⟨l, xs, i, k, y, rfl, rfl, hH, h1, h2, hk, hy, q⟩ := h
  cases rx
  obtain ⟨u, rfl, ru⟩ := rv.one
  obtain ⟨t, rfl⟩ := ru
  obtain ⟨z, its, n, r, hl, e⟩ := I.lstM hH
  obtain ⟨w, hw, rw'⟩ := r.get hy
  refine call_meets F.slot_list_pop ⟨_, e, rfl⟩ F.entry_list_pop (F.args_list_pop_2 _ _)
    (MeetsSeq.list_pop_at l its.toArray n i t k w (fitsIndex_both h1 h2) (by rw [List.size_toArray, ← hl]; exact hk) (by rw [← Array.getElem?_toList]; exact hw) (by rw [List.size_toArray]; omega)) ⟨e, ?_⟩
  refine ⟨y, _, I.lset (its' := its.eraseIdx k) hH e ?_ (r.eraseIdx k) ?_, rw', q⟩
  · show its.toArray.eraseIdxIfInBounds k = (its.eraseIdx k).toArray
    rw [List.eraseIdxIfInBounds_toArray]
  · have := len_erase xs k
    omega
def rReverse : V → List V → Hp → VK → Prop := fun x vs H Q => ∃ l xs, x = .ref l ∧ vs = [] ∧ H l = some (.lst xs) ∧ Q .non (upd H l (.lst xs.reverse))
theorem mt_reverse : MtM X "list.reverse" rReverse := by
  intro pins s σ H x vs v us Q I rx rv h
  obtain ⟨l, xs, rfl, rfl, hH, q⟩ := h
  cases rx
  have hus := rv.zero
  subst hus
  obtain ⟨z, its, n, r, hl, e⟩ := I.lstM hH
  refine call_meets F.slot_list_reverse ⟨_, e, rfl⟩ F.entry_list_reverse (F.args_list_reverse_1 _) (AutoSeq1.list_reverse_list_0 l its.toArray n (by rw [List.size_toArray]; omega)) ⟨e, ?_⟩
  refine ⟨.non, _, I.lset (its' := its.reverse) hH e (by simp) r.reverse ?_, rfl, q⟩
  rw [List.length_reverse]
  omega
def rCat : R2 := fun x y H Q => ∃ l b xs zs, x = .ref l ∧ y = .ref b ∧ H l = some (.lst xs) ∧ H b = some (.lst zs) ∧ xs.length + zs.length ≤ sizeLine ∧ ∀ p, H p = none → Q (.ref p) (upd H p (.lst (xs ++ zs)))
theorem op_cat : OpR X (binaryOp .Add) rCat := by
  intro pins s σ H x y v u Q I rx ry h
  obtain ⟨l, b, xs, zs, rfl, rfl, hH, hB, hz, q⟩ := h
  cases rx
  cases ry
  obtain ⟨z, its, n, r, hl, e⟩ := I.lstM hH
  obtain ⟨z2, its2, n2, r2, hl2, e2⟩ := I.lstM hB
  refine PySem.P.add_list e e2 ?_ (by rw [List.size_toArray, List.size_toArray]; omega)
  have ea : its.toArray ++ its2.toArray = (its ++ its2).toArray := by simp
  rw [ea]
  exact ⟨.ref _, _, I.lnew (t' := s.toks) (r.append r2) (by rw [List.length_append]; omega), rfl, q _ I.fresh⟩
end
section
variable {prog : Program} {w : World} {A : Around} {E : Value → Shared → Prop} {s : Shared}
theorem bounds_run {a c n : Nat} (hac : a ≤ c) (hc : c ≤ n) : sliceBounds (some (a : Int)) (some (c : Int)) none n = ((a : Int), (c : Int), 1) := by
  simp only [sliceBounds, Option.getD_none]
  have h1 : ¬ ((a : Int) < 0) := by omega
  have h2 : ¬ ((c : Int) < 0) := by omega
  simp only [h1, h2, if_false, show (1 : Int) > 0 by decide, if_true]
  congr 1
  · omega
  · congr 1; omega
set_option maxRecDepth 100000 in
theorem setItem_slice {l b sl : Addr} {items new : Array Value} {n n2 : Nat} {vl vu : Value} {a c : Nat} {Q : Unit → Shared → Prop}
    (e : s.heap.get? l = some { cls := .type "list", data := .seq items n }) (e2 : s.heap.get? b = some { cls := .type "list", data := .seq new n2 }) (hne : l ≠ b)
    (hs : s.heap.IsSliceOf sl vl vu .none) (pl : IsPart vl (some (a : Int))) (pu : IsPart vu (some (c : Int))) (hac : a ≤ c) (hc : c ≤ items.size)
    (hsz : items.size + new.size ≤ sizeLine) (h : Q () { s with heap := s.heap.update l (Obj.mapSeq fun xs => xs.extract 0 a ++ new ++ xs.extract c xs.size) }) :
    wpAny (model prog w) A (setItem (.ref l) (.ref sl) (.ref b)) Q E s := by
  have hl : s.heap.IsList l items := PySem.IsL.isList e
  have hb : s.heap.IsList b new := PySem.IsL.isList e2
  obtain ⟨os, hos, hcs, hds⟩ := id hs
  have hTs : s.TypeIs (.ref sl) "slice" := ⟨os, hos, hcs⟩
  have hstep : ¬ ((rawPart none == rawInt 0) = true) := Bool.false_ne_true
  have hsame : Builtin.List.listSameRef (.ref l) (.ref b) = false := by
    unfold Builtin.List.listSameRef
    exact beq_eq_false_iff_ne.mpr hne
  have hmax : (max (a : Int) (c : Int)).toNat = c := by omega
  have hz' : ((fun xs : Array Value => xs.extract 0 a ++ new ++ xs.extract c xs.size) items).size ≤ sizeLine + 1 := by
    simp only [Array.size_append, Array.size_extract]
    omega
  unfold setItem
  try with_reducible refine wpAny_holding ?_
  first | refine wpAny_bind (wpAny_pure ?_) | skip
  refine wpAny_bind (wpAny_sequenceKey hl.typeIs (by decide) ?_)
  refine wpAny_bind (wpAny_callSpecial?_slot (name := Str.ofString "__setitem__") hl.typeIs slot_list_setitem
    (wpAny_call_entry slot_list_setitem hl.typeIs entry_list_setitem ?_ (args_list_setitem _ _ _)))
  show wpAny _ _ (Builtin.List.listSubscript? (.ref sl) >>= _) _ _ s
  refine wpAny_bind ?_
  unfold Builtin.List.listSubscript?
  refine wpAny_bind (wpAny_specialOf hTs slice_no_index ?_)
  simp only [Option.isNone_none, if_true]
  refine wpAny_pure ?_
  show wpAny _ _ (typeOf (.ref sl) >>= _) _ _ s
  refine wpAny_bind (wpAny_typeOf hTs ?_)
  first
    | rw [if_neg (by decide)]
    | refine PySem.W.KFB.if_not (by decide) ?_
  rw [listSliceParts_eq]
  refine wpAny_bind (wpAny_bind (wpAny_field hos hds (x := .none) rfl (wpAny_bind (wpAny_listPart .none ?_))))
  rw [if_neg hstep]
  refine wpAny_bind (wpAny_field hos hds (x := vl) rfl (wpAny_bind (wpAny_listPart pl ?_)))
  refine wpAny_bind (wpAny_field hos hds (x := vu) rfl (wpAny_bind (wpAny_listPart pu (wpAny_pure ?_))))
  first
    | simp only [hsame, Bool.false_eq_true, if_false]
    | refine PySem.W.KFB.if_not hsame ?_
    | (dsimp only
       rw [if_neg (by rw [hsame]; exact Bool.false_ne_true)])
  refine wpAny_bind (m := Builtin.List.listAllItems (.ref b) "must assign iterable to extended slice") ?_
  unfold Builtin.List.listAllItems
  refine wpAny_bind (wpAny_typeOf hb.typeIs ?_)
  first
    | refine PySem.W.KFB.if_so (by decide) ?_
    | rw [if_pos (by decide)]
    | simp only [beq_self_eq_true, Bool.true_or, if_true]
  unfold Builtin.List.listItems
  refine wpAny_bind (wpAny_seqItems e2 rfl (wpAny_pure ?_))
  refine wpAny_bind (wpAny_bind (wpAny_seqItems e rfl (wpAny_pure ?_)))
  refine wpAny_bind (wpAny_of_eq ((sliceIndices_raw (some (a : Int)) (some (c : Int)) none items.size (by simp)).trans (congrArg (pure : Int × Int × Int → Sem (Int × Int × Int)) (bounds_run hac hc))) ?_)
  show wpAny _ _ (if ((1 : Int) == 1) = true then _ else _) _ _ s
  rw [if_pos (by decide)]
  refine wpAny_bind (wpAny_rule ?_)
  first
    | simp only [notLongL hsz, Bool.false_eq_true, if_false]
    | refine PySem.W.KFB.if_not (notLongL hsz) ?_
  first | refine wpAny_bind (wpAny_pure ?_) | skip
  show wpAny _ _ (updateSeq l (fun xs => xs.extract 0 ((a : Int)).toNat ++ new ++ xs.extract (max (a : Int) (c : Int)).toNat xs.size) >>= _) _ _ s
  rw [hmax, Int.toNat_natCast]
  refine wpAny_bind (wpAny_updateSeq (hz := Nat.le_trans (Nat.le_add_right _ _) hsz) (_hz' := hz') e rfl ?_)
  refine wpAny_bind (wpAny_letGo ?_)
  first
    | exact wpAny_bind (wpAny_pure (wpAny_pure ⟨.none, rfl, wpAny_pure h⟩))
    | exact wpAny_pure ⟨.none, rfl, wpAny_pure h⟩
end
section
variable {X : Cx}
end
end L2
namespace L2
open PySem PySem.Spec PyProof.Rows
section
variable {κ : Type} [DecidableEq κ]
def valV (kvs : List (κ × V)) (k : κ) : Option V := (kvs.find? fun kv => decide (kv.1 = k)).map (·.2)
def putK (kvs : List (κ × V)) (k : κ) (v : V) : List (κ × V) :=
  if (kvs.any fun kv => decide (kv.1 = k)) = true then kvs.map (fun kv => if kv.1 = k then (kv.1, v) else kv) else kvs ++ [(k, v)]
theorem valV_pos {p : κ × V} {r : List (κ × V)} {k : κ} (e : p.1 = k) : valV (p :: r) k = some p.2 := by simp [valV, List.find?_cons, e]
theorem valV_neg {p : κ × V} {r : List (κ × V)} {k : κ} (e : ¬ p.1 = k) : valV (p :: r) k = valV r k := by simp [valV, List.find?_cons, e]
theorem length_putK (kvs : List (κ × V)) (k : κ) (v : V) : (putK kvs k v).length ≤ kvs.length + 1 := by
  unfold putK
  split
  · rw [List.length_map]; omega
  · rw [List.length_append, List.length_cons, List.length_nil]; omega
theorem RelO.isSome_eq {o : Option V} {u : Option Value} (r : RelO o u) : o.isSome = u.isSome := by
  cases o with
  | none => cases u with
    | none => rfl
    | some _ => exact (show False from r).elim
  | some _ => cases u with
    | none => exact (show False from r).elim
    | some _ => rfl
theorem RelO.getD {o : Option V} {u : Option Value} {d : V} {d' : Value} (r : RelO o u) (rd : RelV d d') : RelV (o.getD d) (u.getD d') := by
  cases o with
  | none => cases u with
    | none => exact rd
    | some _ => exact (show False from r).elim
  | some _ => cases u with
    | none => exact (show False from r).elim
    | some _ => exact r
theorem KV.val {kvs : List (κ × V)} {vs : List (κ × Value)} (r : KV kvs vs) (k : κ) : RelO (valV kvs k) (valueAt vs k) := by
  unfold KV at r
  induction r with
  | nil => exact True.intro
  | @cons p q ps qs h t ih =>
    obtain ⟨h1, h2⟩ := h
    by_cases e : p.1 = k
    · have e' : q.1 = k := h1.symm.trans e
      have b : valueAt (q :: qs) k = some q.2 := by simp [valueAt, List.find?_cons, e']
      rw [valV_pos e, b]; exact h2
    · have e' : ¬ q.1 = k := fun z => e (h1.trans z)
      have b : valueAt (q :: qs) k = valueAt qs k := by simp [valueAt, List.find?_cons, e']
      rw [valV_neg e, b]; exact ih
theorem KV.any {kvs : List (κ × V)} {vs : List (κ × Value)} (r : KV kvs vs) (k : κ) : (kvs.any fun kv => decide (kv.1 = k)) = vs.any fun kv => decide (kv.1 = k) := by
  unfold KV at r
  induction r with
  | nil => rfl
  | cons h t ih => rw [List.any_cons, List.any_cons, ih, h.1]
theorem KV.repl {kvs : List (κ × V)} {vs : List (κ × Value)} (r : KV kvs vs) (k : κ) {y : V} {u : Value} (ry : RelV y u) :
    KV (kvs.map fun kv => if kv.1 = k then (kv.1, y) else kv) (vs.map fun kv => if kv.1 = k then (kv.1, u) else kv) := by
  unfold KV at r ⊢
  induction r with
  | nil => exact .nil
  | @cons p q ps qs h t ih =>
    rw [List.map_cons, List.map_cons]
    refine .cons ?_ ih
    obtain ⟨h1, h2⟩ := h
    by_cases e : p.1 = k
    · rw [if_pos e, if_pos (h1.symm.trans e)]; exact ⟨h1, ry⟩
    · rw [if_neg e, if_neg (fun z => e (h1.trans z))]; exact ⟨h1, h2⟩
theorem KV.put {kvs : List (κ × V)} {vs : List (κ × Value)} (r : KV kvs vs) (k : κ) {y : V} {u : Value} (ry : RelV y u) : KV (putK kvs k y) (stored vs k u) := by
  unfold putK stored
  rw [r.any k]
  by_cases e : (vs.any fun kv => decide (kv.1 = k)) = true
  · rw [if_pos e, if_pos e]; exact r.repl k ry
  · rw [if_neg e, if_neg e]; exact Paired.snoc r ⟨rfl, ry⟩
theorem KV.length {kvs : List (κ × V)} {vs : List (κ × Value)} (r : KV kvs vs) : kvs.length = vs.length := Paired.length r
end
theorem kV_is {P : Program} {w : World} {k : Key} {u : Value} (r : RelV (kV k) u) : (mixKind P w).is k u = true := by
  cases k with
  | inl i => obtain ⟨t, e⟩ := (show ∃ t, u = Value.int i t from r); subst e; exact mixKind_int P w i t
  | inr x => obtain ⟨t, e⟩ := (show ∃ t, u = Value.str x t from r); subst e; exact mixKind_str P w x t
theorem items_are {P : Program} {w : World} : ∀ {ks : List Key} {us : List Value}, Vals (ks.map kV) us → ItemsAre (mixKind P w) ks us
  | [], _, r => by rw [List.map_nil] at r; cases r; exact .nil
  | k :: ks, _, r => by
    rw [List.map_cons] at r
    cases r with
    | cons h t => exact .cons (kV_is h) (items_are t)
abbrev KT (H : Hp) : List (List Key × V) → List (List Key × Addr × Value) → Prop := Paired fun p q => p.1 = q.1 ∧ H q.2.1 = some (.tup (p.1.map kV)) ∧ RelV p.2 q.2.2
theorem KT.val {H : Hp} {kvs : List (List Key × V)} {xs : List (List Key × Addr × Value)} (r : KT H kvs xs) (k : List Key) : RelO (valV kvs k) ((atKey xs k).map (·.2)) := by
  induction r with
  | nil => exact True.intro
  | @cons p q ps qs h t ih =>
    obtain ⟨h1, _, h2⟩ := h
    by_cases e : p.1 = k
    · have e' : q.1 = k := h1.symm.trans e
      have b : atKey (q :: qs) k = some q.2 := by simp [atKey, List.find?_cons, e']
      rw [valV_pos e, b]; exact h2
    · have e' : ¬ q.1 = k := fun z => e (h1.trans z)
      have b : atKey (q :: qs) k = atKey qs k := by simp [atKey, List.find?_cons, e']
      rw [valV_neg e, b]; exact ih
section
variable {P : Program} {w : World} {H : Hp} {h : Heap} {a : Addr}
theorem rd_of {u : HO} (ok : HOk P w H h) (e : Rd H a u) : ObjOk P w H h a u := e.ok ok
theorem dk_rd {kvs : List (Key × V)} (ok : HOk P w H h) (e : Rd H a (.dK kvs)) : kvs.length ≤ sizeLine ∧ (a == sysModules) = false ∧ ∃ vs, KV kvs vs ∧ h.DictOf (mixKind P w) a vs :=
  show ObjOk P w H h a (.dK kvs) from rd_of ok e
theorem dk_of {kvs : List (Key × V)} (ok : HOk P w H h) (e : H a = some (.dK kvs)) : kvs.length ≤ sizeLine ∧ (a == sysModules) = false ∧ ∃ vs, KV kvs vs ∧ h.DictOf (mixKind P w) a vs := dk_rd ok (.inl e)
theorem key_of {ks : List Key} (ok : HOk P w H h) (e : H a = some (.tup (ks.map kV))) : (tupleKind (mixKind P w)).is h ks a := by
  obtain ⟨_, its, r, o, h1, h2, _, n, h3⟩ := (show ObjOk P w H h a (.tup (ks.map kV)) from ok a _ e)
  exact ⟨o, its.toArray, n, h1, h2, h3, by simpa using items_are r⟩
theorem dt_rd {kvs : List (List Key × V)} (ok : HOk P w H h) (e : Rd H a (.dT kvs)) : kvs.length ≤ sizeLine ∧ (a == sysModules) = false ∧
    ∃ xs, KT H kvs xs ∧ h.DictOfH (tupleKind (mixKind P w)) a xs := by
  obtain ⟨z, y, xs, r, o, es, ep, h1, h2, h3, h4, h5⟩ := (show ObjOk P w H h a (.dT kvs) from rd_of ok e)
  refine ⟨z, y, xs, r, o, es, ep, h1, h2, h3, h4, fun x hx => ?_, h5⟩
  have all : ∀ {l : List (List Key × V)} {m : List (List Key × Addr × Value)}, KT H l m → ∀ x ∈ m, (tupleKind (mixKind P w)).is h x.1 x.2.1 := by
    intro l m q
    induction q with
    | nil => intro x hx; exact nomatch hx
    | @cons p q ps qs hq t ih =>
      intro x hx
      rcases List.mem_cons.mp hx with e | hx
      · subst e
        exact key_of ok (by rw [← hq.1]; exact hq.2.1)
      · exact ih x hx
  exact all r x hx
end
def DGet (H : Hp) (a : Addr) (y : V) (r : Option V) : Prop :=
  (∃ kvs k, Rd H a (.dK kvs) ∧ y = kV k ∧ r = valV kvs k) ∨ ∃ kvs k b, Rd H a (.dT kvs) ∧ y = .ref b ∧ H b = some (.tup (k.map kV)) ∧ r = valV kvs k
theorem DGet.k {H : Hp} {a : Addr} {kvs : List (Key × V)} {k : Key} (e : H a = some (.dK kvs)) : DGet H a (kV k) (valV kvs k) := .inl ⟨kvs, k, .inl e, rfl, rfl⟩
section
variable {X : Cx} {pins : List (Addr × Obj)} {σ : St} {H : Hp} {s : Shared} {a : Addr} {y v : V} {u r : Value} {o : Option V} {A : Around} {E : Value → Shared → Prop}
theorem Inv.big (I : Inv X pins σ H s) : sysModules < s.heap.objs.size := by
  have h : mainGlobals < s.heap.objs.size := (I.mod.glob.keeps I.bk).lt
  exact Nat.lt_trans (by decide) h
theorem d_getItem {Q : Value → Shared → Prop} (hu : A.units + 1 < cLine) (I : Inv X pins σ H s) (g : DGet H a y (some v)) (ry : RelV y u) (h : ∀ w' s', Inv X pins σ H s' → RelV v w' → Q w' s') :
    wpAny (model X.prog X.w) A (getItem (.ref a) u) Q E s := by
  rcases g with ⟨kvs, k, e, ey, l⟩ | ⟨kvs, k, b, e, ey, eb, l⟩
  · subst ey
    obtain ⟨z, hd, vs, rel, dd⟩ := dk_rd I.hok e
    obtain ⟨w', hw, rw'⟩ := RelO.some_of (v := v) (o := valueAt vs k) (by rw [l]; exact rel.val k)
    exact wpAny_getItem_of (kV_is ry) dd.mapOf hw (h w' _ (I.tok _) rw')
  · subst ey
    cases (show u = Value.ref b from ry)
    obtain ⟨z, hd, xs, rel, dd⟩ := dt_rd I.hok e
    obtain ⟨w', hw, rw'⟩ := RelO.some_of (v := v) (o := (atKey xs k).map (·.2)) (by rw [l]; exact rel.val k)
    obtain ⟨p, hp, hp2⟩ := Option.map_eq_some_iff.mp hw
    refine wpAny_getItem_heap (tupleKind_room_in1 hu) (key_of I.hok eb) dd hp ?_
    rw [hp2]
    exact h w' _ (I.tok _) rw'
theorem d_notIn {Q : Value → Shared → Prop} (hu : A.units + 1 < cLine) (I : Inv X pins σ H s) (g : DGet H a y o) (ry : RelV y u) (h : ∀ s', Inv X pins σ H s' → Q (.bool (!o.isSome)) s') :
    wpAny (model X.prog X.w) A (compareOp .NotIn u (.ref a)) Q E s := by
  rcases g with ⟨kvs, k, e, ey, l⟩ | ⟨kvs, k, b, e, ey, eb, l⟩
  · subst ey
    obtain ⟨z, hd, vs, rel, dd⟩ := dk_rd I.hok e
    refine wpAny_notIn_of (kV_is ry) hd dd.mapOf ?_
    rw [← (rel.val k).isSome_eq, ← l]
    exact h _ (I.tok _)
  · subst ey
    cases (show u = Value.ref b from ry)
    obtain ⟨z, hd, xs, rel, dd⟩ := dt_rd I.hok e
    refine wpAny_notIn_heap (tupleKind_room_in1 hu) (key_of I.hok eb) hd dd ?_
    have q := (rel.val k).isSome_eq
    rw [Option.isSome_map] at q
    rw [← q, ← l]
    exact h _ (I.tok _)
theorem d_write {h' : Heap} {t' : Nat} {ob : HO} (I : Inv X pins σ H s) (mu : Mut (H a)) (hs : Heap.SameBut a s.heap h') (he : ∃ q, h'.get? a = some q) (new : ObjOk X.prog X.w (upd H a ob) h' a ob) :
    Inv X pins σ (upd H a ob) { s with heap := h', toks := t' } :=
  I.write (x := a) (e := a) mu (.inl rfl) (fun b q hb z => (hs.2 b hb).trans z) he new
theorem dk_new {P : Program} {w : World} {H' : Hp} {h' : Heap} {kvs : List (Key × V)} {vs : List (Key × Value)} (z : kvs.length ≤ sizeLine) (hd : (a == sysModules) = false) (rel : KV kvs vs) (dd : h'.DictOf (mixKind P w) a vs) :
    ObjOk P w H' h' a (.dK kvs) := ⟨z, hd, vs, rel, dd⟩
end
section
variable {X : Cx} {pins : List (Addr × Obj)} {σ : St} {H : Hp} {s : Shared} {a : Addr} {kvs : List (Key × V)} {k : Key} {u : Value} {A : Around} {E : Value → Shared → Prop}
end
def NoSl (i : Expr) : Prop := ∀ ov iv, subscripted i false ov iv = operate [ov, iv] (getItem ov iv)
theorem subD_of {prog : Program} {w : World} {A : Around} {E : Value → Shared → Prop} {s : Shared} {env : Env} {value slice : Expr} {pos : Pos} {T id : String} {Q : Value → Shared → Prop}
    (hl : typeLookup (.type T) "__getitem__" = pure (some (.builtin id))) (hs : NoSl slice)
    (h : wpAny (model prog w) A (eval value env) (fun o s₁ => wpAny (model prog w) A (eval slice env) (fun i s₂ => s₂.TypeIs o T ∧ wpAny (model prog w) A (getItem o i) Q E s₂) E s₁) E s) :
    wpAny (model prog w) A (eval (.Subscript value slice pos) env) Q E s := by
  refine Subscript_ (wpAny_mono h (fun o s₁ h₁ => wpAny_mono h₁ (fun i s₂ h₂ => ?_) fun _ _ x => x) fun _ _ x => x)
  obtain ⟨hT, h₂⟩ := h₂
  unfold subscriptTail
  refine wpAny_bind ?_
  rw [getitemInPython_of_ne hT.not_modules]
  refine wpAny_bind (wpAny_specialOf hT hl ?_)
  have fin : wpAny (model prog w) A (subscripted slice false o i) (fun r s₃ => wpAny (model prog w) A (letTemporaryGo value o r >>= fun _ => pure r) Q E s₃) E s₂ := by
    rw [hs o i]
    exact wpAny_operating (wpAny_mono h₂ (fun r s₃ h₃ => wpAny_bind (wpAny_letTemporaryGo (wpAny_pure h₃))) fun _ _ x => x)
  first
    | exact wpAny_pure (wpAny_bind fin)
    | exact wpAny_bind (wpAny_pure (wpAny_bind fin))
    | exact wpAny_bind fin
theorem dict_typeIs {X : Cx} {pins : List (Addr × Obj)} {σ : St} {H : Hp} {s : Shared} {a : Addr} {y : V} {o : Option V} (I : Inv X pins σ H s) (g : DGet H a y o) : s.TypeIs (.ref a) "dict" := by
  rcases g with ⟨kvs, k, e, _, _⟩ | ⟨kvs, k, b, e, _, _, _⟩
  · obtain ⟨_, _, vs, _, dd⟩ := dk_rd I.hok e
    exact dd.typeIs
  · obtain ⟨_, _, xs, _, dd⟩ := dt_rd I.hok e
    exact dd.typeIs
def tDGet (td ty : TE) : TE := fun σ H Q => td σ H fun x H1 => ty σ H1 fun y H2 => ∃ a v, x = .ref a ∧ DGet H2 a y (some v) ∧ Q v H2
def tDNotIn (ty td : TE) : TE := fun σ H Q => ty σ H fun y H1 => td σ H1 fun x H2 => ∃ a o, x = .ref a ∧ DGet H2 a y o ∧ Q (.bl (!o.isSome)) H2
section
variable {X : Cx} {o i e value : Expr} {pos pos' tpos : Pos} {td ty tv : TE}
theorem pe_dget (hu : X.A.units + 1 < cLine) (ho : PE X o td) (hi : PE X i ty) (hs : NoSl i) : PE X (.Subscript o i pos) (tDGet td ty) := by
  intro pins s σ H Q I h
  refine subD_of PySem.F.slot_dict_getitem.lookup hs (thn (ho pins s σ H _ I h) fun u s1 ⟨x, H1, I1, rx, q1⟩ => thn (hi pins s1 σ H1 _ I1 q1) fun iv s2 ⟨y, H2, I2, ry, a, v, ex, g, q2⟩ => ?_)
  subst ex
  obtain rfl : u = Value.ref a := rx
  exact ⟨dict_typeIs I2 g, d_getItem hu I2 g ry fun w' s3 I3 rw' => ⟨v, H2, I3, rw', q2⟩⟩
theorem pc_dnotin (hu : X.A.units + 1 < cLine) (hi : PE X i ty) (ho : PE X o td) : PC X .NotIn i o (tDNotIn ty td) := by
  intro pins s σ H Q I h
  refine thn (hi pins s σ H _ I h) fun iv s1 ⟨y, H1, I1, ry, q1⟩ => thn (ho pins s1 σ H1 _ I1 q1) fun u s2 ⟨x, H2, I2, rx, a, ov, ex, g, q2⟩ => ?_
  subst ex
  obtain rfl : u = Value.ref a := rx
  exact d_notIn hu I2 g ry fun s3 I3 => ⟨.bl (!ov.isSome), H2, I3, rfl, q2⟩
end
theorem dk_empty {P : Program} {w : World} {H : Hp} (h : Heap) (hb : sysModules < h.objs.size) : ObjOk P w H (h.push { cls := .type "dict", data := .dict #[] }) h.objs.size (.dK []) :=
  ⟨Nat.zero_le _, beq_eq_false_iff_ne.mpr (Ne.symm (Nat.ne_of_lt hb)), [], .nil, Heap.DictOf.new h⟩
def tDNewK : TE := fun _ H Q => ∀ p, H p = none → Q (.ref p) (upd H p (.dK []))
section
variable {X : Cx} {pos : Pos}
theorem pe_dnewK : PE X (.Dict [] [] pos) tDNewK := fun pins s σ H Q I h =>
  wpAny_Dict_empty ⟨.ref s.heap.objs.size, _, I.laid (a := s.heap.objs.size) (o := .dK []) (t' := s.toks) (fun _ _ q => Heap.get?_push_of_some _ q) (Nat.le_refl _) (dk_empty s.heap I.big), rfl, h _ (I.hok.fresh (Nat.le_refl _))⟩
end
def tPairs : List (TE × TE) → St → Hp → (List (V × V) → Hp → Prop) → Prop
  | [], _, H, Q => Q [] H
  | (tk, tv) :: r, σ, H, Q => tk σ H fun x H1 => tv σ H1 fun y H2 => tPairs r σ H2 fun ps H3 => Q ((x, y) :: ps) H3
abbrev VV : List (V × V) → List (Value × Value) → Prop := Paired fun p q => RelV p.1 q.1 ∧ RelV p.2 q.2
def PPs (X : Cx) (pos : Pos) (keys : List (Option Expr)) (values : List Expr) (trs : List (TE × TE)) : Prop :=
  ∀ (pins : List (Addr × Obj)) (s : Shared) (σ : St) (H : Hp) (Q : List (V × V) → Hp → Prop), Inv X pins σ H s → tPairs trs σ H Q →
    wpAny (model X.prog X.w) X.A (evalPairs (pairTrees keys values X.env pos)) (fun vs s' => ∃ ps H', Inv X pins σ H' s' ∧ VV ps vs ∧ Q ps H') X.xe s
theorem pps_nil {X : Cx} {pos : Pos} : PPs X pos [] [] [] := fun pins s σ H Q I h => pairTrees_nil_walk ⟨[], H, I, .nil, h⟩
theorem pps_cons {X : Cx} {pos : Pos} {k v : Expr} {ks : List (Option Expr)} {vs : List Expr} {tk tv : TE} {trs : List (TE × TE)} (hk : PE X k tk) (hv : PE X v tv) (hr : PPs X pos ks vs trs) :
    PPs X pos (some k :: ks) (v :: vs) ((tk, tv) :: trs) := fun pins s σ H Q I h =>
  pairTrees_cons_walk (thn (hk pins s σ H _ I h) fun u s1 ⟨x, H1, I1, rx, q1⟩ => thn (hv pins s1 σ H1 _ I1 q1) fun w2 s2 ⟨y, H2, I2, ry, q2⟩ =>
    thn (hr pins s2 σ H2 _ I2 q2) fun ws s3 ⟨ps, H3, I3, rel, q3⟩ => ⟨(x, y) :: ps, H3, I3, .cons ⟨rx, ry⟩ rel, q3⟩)
def mergeK (kvs more : List (Key × V)) : List (Key × V) := more.foldl (fun acc kv => putK acc kv.1 kv.2) kvs
theorem KV.merge : ∀ {more : List (Key × V)} {rs : List (Key × Value)} {kvs : List (Key × V)} {vs : List (Key × Value)}, KV more rs → KV kvs vs → KV (mergeK kvs more) (merged vs rs) := by
  intro more rs kvs vs r
  unfold KV at r
  induction r generalizing kvs vs with
  | nil => intro q; exact q
  | @cons p q ps qs h t ih =>
    intro r0
    have e : KV (putK kvs p.1 p.2) (stored vs q.1 q.2) := by
      have := r0.put p.1 h.2
      rw [← h.1]; exact this
    exact ih e
theorem length_mergeK : ∀ (more kvs : List (Key × V)), (mergeK kvs more).length ≤ kvs.length + more.length
  | [], kvs => by show kvs.length ≤ kvs.length + 0; omega
  | p :: r, kvs => by
    have h1 := length_mergeK r (putK kvs p.1 p.2)
    have h2 := length_putK kvs p.1 p.2
    show (mergeK (putK kvs p.1 p.2) r).length ≤ _
    rw [List.length_cons]; omega
theorem carries_of {P : Program} {w : World} : ∀ {kvs : List (Key × V)} {ws : List (Value × Value)}, VV (kvs.map fun kv => (kV kv.1, kv.2)) ws → ∃ rs, Carries (mixKind P w) ws rs ∧ KV kvs rs
  | [], _, r => by rw [List.map_nil] at r; cases r; exact ⟨[], True.intro, .nil⟩
  | p :: kvs, _, r => by
    rw [List.map_cons] at r
    cases r with
    | @cons a b as bs h t =>
      obtain ⟨rs, c, q⟩ := carries_of (P := P) (w := w) t
      obtain ⟨b1, b2⟩ := b
      exact ⟨(p.1, b2) :: rs, ⟨kV_is h.1, rfl, c⟩, .cons ⟨rfl, h.2⟩ q⟩
def tDisp (trs : List (TE × TE)) : TE := fun σ H Q => ∀ p, H p = none → tPairs trs σ (upd H p (.dK [])) fun ps H2 => H2 p = some (.dK []) ∧ ∃ kvs : List (Key × V), ps = kvs.map (fun kv => (kV kv.1, kv.2)) ∧ kvs.length ≤ 15 ∧ Q (.ref p) (upd H2 p (.dK (mergeK [] kvs)))
theorem pe_disp {X : Cx} {pos : Pos} {keys : List (Option Expr)} {values : List Expr} {trs : List (TE × TE)} (h : PPs X pos keys values trs) (hall : keys.all (·.isSome) = true) (hl : keys.length = values.length) (h0 : keys ≠ [])
    (h15 : keys.length ≤ 15) : PE X (.Dict keys values pos) (tDisp trs) := by
  intro pins s σ H Q I q
  have hn := I.hok.fresh (Nat.le_refl s.heap.objs.size)
  have I1 := I.laid (a := s.heap.objs.size) (o := .dK []) (h' := s.heap.push { cls := .type "dict", data := .dict #[] }) (t' := s.toks) (fun _ _ q => Heap.get?_push_of_some _ q) (Nat.le_refl _) (dk_empty s.heap I.big)
  refine wpAny_Dict_walk (knd := mixKind X.prog X.w) hall hl h0 h15 (thn (h pins _ σ _ _ I1 (q _ hn)) fun ws s2 ⟨ps, H2, I2, rel, e, kvs, ep, lk, q2⟩ => ?_)
  subst ep
  obtain ⟨rs, c, rk⟩ := carries_of (P := X.prog) (w := X.w) rel
  obtain ⟨z, hd, vs0, r0, dd⟩ := dk_of I2.hok e
  cases r0
  refine ⟨rs, c, dd, fun h' dd' hs => ⟨.ref s.heap.objs.size, _, ?_, rfl, q2⟩⟩
  have hz : (mergeK [] kvs).length ≤ sizeLine := by
    have h1 := length_mergeK kvs []
    rw [List.length_nil] at h1
    rw [sizeLine_eq]; omega
  have he : ∃ q, h'.get? s.heap.objs.size = some q := let ⟨q, _, _, hq, _⟩ := dd'; ⟨q, hq⟩
  exact d_write I2 (by rw [e]; exact True.intro) hs he (dk_new hz hd (rk.merge .nil) dd')
structure M1 (X : Cx) (o : Expr) (m : Str) (apos : Pos) (e : Expr) (cpos : Pos) : Prop where
  base : attributeBase o m X.env (eval o X.env) = eval o X.env
  few : ((backTo cpos (starEach [e] X.env)).all (fun x => !x.1) && (backToKw cpos (keywordEach [] X.env)).all (fun x => x.1.isSome)
    && decide (([e] : List Expr).length + ([] : List Keyword).length + (if ([] : List Keyword).isEmpty then 0 else 1) < 30)) = true
  line : (apos.endLine == cpos.line) = true
  trees : backTo cpos (starEach [e] X.env) = [(false, eval e X.env)]
structure M2 (X : Cx) (o : Expr) (m : Str) (apos : Pos) (e f : Expr) (cpos : Pos) : Prop where
  base : attributeBase o m X.env (eval o X.env) = eval o X.env
  few : ((backTo cpos (starEach [e, f] X.env)).all (fun x => !x.1) && (backToKw cpos (keywordEach [] X.env)).all (fun x => x.1.isSome)
    && decide (([e, f] : List Expr).length + ([] : List Keyword).length + (if ([] : List Keyword).isEmpty then 0 else 1) < 30)) = true
  line : (apos.endLine == cpos.line) = true
  trees : backTo cpos (starEach [e, f] X.env) = [(false, eval e X.env), (false, eval f X.env)]
def IsD (H : Hp) (a : Addr) : Prop := (∃ kvs, Rd H a (.dK kvs)) ∨ ∃ kvs, Rd H a (.dT kvs)
theorem isD_at {X : Cx} {pins : List (Addr × Obj)} {σ : St} {H : Hp} {s : Shared} {a : Addr} (I : Inv X pins σ H s) (d : IsD H a) :
    s.TypeIs (.ref a) "dict" ∧ (∀ b, Value.ref a = .ref b → ∃ ob, s.heap.get? b = some ob ∧ ob.dict = none) ∧ (a == sysModules) = false := by
  rcases d with ⟨kvs, e⟩ | ⟨kvs, e⟩
  · obtain ⟨_, hd, vs, _, dd⟩ := dk_rd I.hok e
    refine ⟨dd.typeIs, fun b q => ?_, hd⟩
    cases q
    obtain ⟨ob, _, _, h1, h2, _⟩ := dd
    exact ⟨ob, h1, h2.2.1⟩
  · obtain ⟨_, hd, xs, _, dd⟩ := dt_rd I.hok e
    refine ⟨dd.typeIs, fun b q => ?_, hd⟩
    cases q
    obtain ⟨ob, _, _, h1, h2, _⟩ := dd
    exact ⟨ob, h1, h2.2.1⟩
section
variable {X : Cx} {pins : List (Addr × Obj)} {σ : St} {H : Hp} {s : Shared} {a : Addr} {y d : V} {u r : Value} {o : Option V} {A : Around} {E : Value → Shared → Prop}
theorem d_get2 {Q : Value → Shared → Prop} (hu : A.units + 1 < cLine) (I : Inv X pins σ H s) (g : DGet H a y o) (ry : RelV y u) (rd : RelV d r) (h : ∀ w' s', Inv X pins σ H s' → RelV (o.getD d) w' → Q w' s') :
    wpAny (model X.prog X.w) A (call (.builtin "dict.get") [.ref a, u, r]) Q E s := by
  rcases g with ⟨kvs, k, e, ey, l⟩ | ⟨kvs, k, b, e, ey, eb, l⟩
  · subst ey
    obtain ⟨z, hd, vs, rel, dd⟩ := dk_rd I.hok e
    refine call_meetsIn PySem.F.slot_dict_get dd.typeIs PySem.F.entry_dict_get (PySem.F.args_dict_get_3 _ _ _) (meets_dict_get_default (mixKind X.prog X.w) a (kV_is ry) hd r) ⟨_, dd.mapOf, h _ _ (I.tok _) ?_⟩
    rw [l]
    exact (rel.val k).getD rd
  · subst ey
    cases (show u = Value.ref b from ry)
    obtain ⟨z, hd, xs, rel, dd⟩ := dt_rd I.hok e
    refine call_meetsIn PySem.F.slot_dict_get dd.typeIs PySem.F.entry_dict_get (PySem.F.args_dict_get_3 _ _ _) (meetsH_dict_get_default (tupleKind (mixKind X.prog X.w)) a b hd r) ⟨tupleKind_room_in1 hu, k, xs, key_of I.hok eb, dd, h _ _ (I.tok _) ?_⟩
    rw [l]
    exact (rel.val k).getD rd
end
def tDGet2 (td ty tx : TE) : TE := fun σ H Q => td σ H fun x H1 => ∃ a, x = .ref a ∧ IsD H1 a ∧ ty σ H1 fun y H2 => tx σ H2 fun z H3 => ∃ o, DGet H3 a y o ∧ Q (o.getD z) H3
section
variable {X : Cx} {o e f : Expr} {apos cpos : Pos} {td ty tx : TE}
theorem pe_dget2 (hu : X.A.units + 1 < cLine) (ho : PE X o td) (he : PE X e ty) (hf : PE X f tx) (m : M2 X o "get" apos e f cpos) : PE X (.Call (.Attribute o "get" apos) [e, f] [] cpos) (tDGet2 td ty tx) := by
  intro pins s σ H Q I h
  refine wpAny_Call_method m.base m.few m.line PySem.F.plainAttrs_dict PySem.F.slot_dict_get PySem.F.type_dict_get (thn (ho pins s σ H _ I h) fun u s1 ⟨x, H1, I1, rx, a, ex, d, q1⟩ => ?_)
  subst ex
  obtain rfl : u = Value.ref a := rx
  obtain ⟨t1, t2, _⟩ := isD_at I1 d
  refine ⟨t1, t2, ?_⟩
  rw [m.trees]
  refine Calls.callWith_builtin rfl (Calls.evalArgs_plain (Calls.spliced_cons (thn (he pins s1 σ H1 _ I1 q1) fun iv s2 ⟨y, H2, I2, ry, q2⟩ =>
    Calls.spliced_cons (thn (hf pins s2 σ H2 _ I2 q2) fun fv s3 ⟨z, H3, I3, rz, ov, g, q3⟩ => Calls.spliced_nil ?_))))
  exact d_get2 hu I3 g ry rz fun w' s4 I4 rw' => ⟨_, H3, I4, rw', q3⟩
end
section
variable {X : Cx} {pins : List (Addr × Obj)} {σ : St} {H : Hp} {s : Shared} {a : Addr} {kvs : List (Key × V)} {A : Around} {E : Value → Shared → Prop}
end
section
variable {X : Cx} {pins : List (Addr × Obj)} {σ : St} {H : Hp} {s : Shared} {a : Addr} {y : V} {u : Value} {A : Around} {E : Value → Shared → Prop}
end
end L2
namespace Att
open PySem PySem.W PySem.Calls PyProof.Rows
theorem ints_of_wellAll {P : Params} {h : Heap} : ∀ (ns : List Int) (vs : List Value), WellAll P h vs (ns.map WData.int) → IntsAre vs ns := by
  intro ns
  induction ns with
  | nil =>
    intro vs w
    rw [List.map_nil] at w
    cases w
    exact .nil
  | cons n ns ih =>
    intro vs w
    rw [List.map_cons] at w
    cases w with
    | cons a b =>
      cases a
      exact .cons _ _ (ih _ b)
theorem script_of {l : OpenLaw} {n : Nat} (hn : l.most = some n) {P : Params} {h : Heap} {args : List WData} {vals : List Value}
    (hpre : l.row.toRowW.claim.pre args = true) (hwl : WellAll P h vals args) :
    ∃ a vs ns, vals = [Value.ref a] ∧ args = [WData.list (ns.map WData.int)] ∧ h.get? a = some { cls := .type "list", data := .seq vs.toArray } ∧ IntsAre vs ns ∧ ns.length ≤ n := by
  have hsh : WShape.hasAll [] args [.list .int] = true := (pre_splitW hpre).1
  have hc : l.pre.holds [] { args := args } = true := (pre_splitW hpre).2
  obtain ⟨d, r, rfl, h1, h2⟩ := hasAllW_cons hsh
  obtain rfl := hasAllW_nil h2
  obtain ⟨xs, rfl, h3⟩ := hasW_list h1
  obtain ⟨ns, rfl⟩ := items_int h3
  have hlen : ns.length ≤ n := by
    unfold OpenLaw.pre at hc
    have h4 : (WTm.not (.lt (.lit (.int (n : Int))) (.len (.arg 0)))).holds [] { args := [.list (ns.map .int)] } = true := by
      have h4 := (holds_andW hc).1
      rw [hn] at h4
      exact h4
    have h5 := condW_of h4 (w_not (w_lt w_lit (w_len_list (w_arg rfl))))
    rw [List.length_map] at h5
    refine Nat.le_of_not_lt fun q => ?_
    have q' : (n : Int) < ((ns.length : Nat) : Int) := by omega
    first
      | (rw [decide_eq_true q'] at h5; exact absurd h5 (by decide))
      | (simp at h5; omega)
  cases hwl with
  | cons w1 w2 =>
    cases w2
    cases w1 with
    | list ho hall => exact ⟨_, _, ns, rfl, rfl, ho, ints_of_wellAll ns _ hall, hlen⟩
theorem post_true (l : OpenLaw) (args : List WData) : l.row.toRowW.claim.post args (.bool true) args = true :=
  postW_of (r := l.row.toRowW) (X := (true == true))
    (show WShape.has [] (.bool true) .bool = true by first | rfl | decide | simp [WShape.has, WShape.arms, WShape.armsAll])
    (show (WTm.eq .res (.lit (.bool true))).value [] { args := args, res := some (.bool true), after := args } = some (.bool (true == true)) from w_eq_bool (w_res rfl) w_lit) rfl
theorem attach_call {l : OpenLaw} {n : Nat} {q : Program} {loose : List Str} {XP : (Str → Option Value) → Heap → Prop} {YP : World → Heap → Prop} {d : DefRec}
    (hn : l.most = some n) (hdf : d.params.defaults = [])
    (call : ∀ (w : World) (s₀ s₁ : Shared) (mg mb : Str → Option Value) (fa : Addr) (o : Obj) (pm cd doc : Value) (a : Addr) (vs : List Value) (ns : List Int),
      Ground q loose [] XP w s₀ mg mb s₁.heap → YP w s₁.heap →
      s₁.heap.get? fa = some o → o.data = .func (docDef d.name d.params d.body d.scope pm cd doc) → s₁.heap.CodeRec cd d.name → mg d.name = some (.ref fa) →
      s₁.heap.get? a = some { cls := .type "list", data := .seq vs.toArray } → IntsAre vs ns → ns.length ≤ n → s₁.gens = #[] →
      codeAny (model l.prog w) callerA (.call (.ref fa) ⟨[.ref a], []⟩) (fun r s' => r = .ok (.ret (.bool true)) ∧ OldK s₁.heap s'.heap ∧ s'.os = s₁.os ∧ AllBare s'.gens) s₁) :
    WalkO q loose XP YP l.row.toRowW d [] (fun f vs => PySem.call f vs) := by
  intro w s₀ s₁ mg mb G Y fa o pm cd doc dV kV ho hd hcd hD hmg hg args vals as hpre hlay hrd hwl hlo
  obtain rfl : dV = .none := Dflts.none hD hdf
  obtain rfl : kV = .none := Dflts.noKw hD
  obtain ⟨a, vs, ns, rfl, rfl, hobj, hints, hlen⟩ := script_of hn hpre hwl
  refine enter_call (codeAny_mono (call w s₀ s₁ mg mb fa o pm cd doc a vs ns G Y ho (fd_plain hd) hcd hmg hobj hints hlen hg) fun r s' hq => ?_)
  obtain ⟨rfl, h2, h3, h4⟩ := hq
  exact ⟨.inl ⟨.bool true, .bool true, [], rfl, fun _ => rfl, .bool true, post_true l _, fun _ => ⟨List.Pairwise.nil, fun _ hm => (nomatch hm)⟩⟩, h2, h3, h4⟩
section
variable {prog : Program} {w : World} {A : Around} {E : Value → Shared → Prop} {s : Shared} {K : Frag}
end
end Att
namespace L2
open PySem PySem.Spec PyProof.Rows
theorem vals_ints : ∀ {vs : List Value} {ns : List Int}, IntsAre vs ns → Vals (ns.map V.int) vs
  | _, _, .nil => .nil
  | _, _, .cons n t h => .cons ⟨t, rfl⟩ (vals_ints h)
def Only (H : Hp) : Prop := ∀ b, H b = none ∨ ∃ o xs, H b = some (.frz o (.lst xs))
theorem law_call {P : Program} {w : World} {K : PySem.W.Frag} {mg mb : Str → Option Value} {CX : CXT} {k : Nat} {fa a : Addr} {fd : FuncData} {x : Str} {sp : Sp} {s₁ : Shared} {vs : List Value} {ns : List Int}
    (KX : K.In s₁.heap) (hns : s₁.heap.Ns mainGlobals mg) (hb : s₁.heap.Ns builtinsNs mb) (hbb : ∀ x : Str, x ≠ "__name__" → mb x = bootBuiltins x) (hlim : s₁.heap.NoLimit) (hg : s₁.gens = #[])
    (ha : s₁.heap.get? a = some { cls := .type "list", data := .seq vs.toArray }) (hi : IntsAre vs ns) (hl : ns.length ≤ sizeLine) (hr : Room k callerA)
    (F : ∀ base : Heap, K.In base → base.Ns mainGlobals mg → FnOk P w K mg base CX k fa fd [x] sp) (hbind : ∀ (s : Shared) (u : Value), BindsTo s fd ⟨[u], []⟩ [(x, u)])
    (hsp : ∀ H : Hp, Only H → SqL K H a (ns.map V.int) → sp [.ref a] H (fun v _ => v = .bl true) fun _ _ _ => False)
    (hCX : ∀ H e s', CX [] H s₁ (fun _ _ _ => False) e s' → False) :
    codeAny (model P w) callerA (.call (.ref fa) ⟨[.ref a], []⟩) (fun r s' => r = .ok (.ret (.bool true)) ∧ OldK s₁.heap s'.heap ∧ s'.os = s₁.os ∧ AllBare s'.gens) s₁ := by
  have rv := vals_ints hi
  have lenV := hi.length
  -- from an abstract heap in which nothing but the script may be tracked
  have core : ∀ H : Hp, Only H → SqL K H a (ns.map V.int) → HOk P w H s₁.heap → (∀ b, H b ≠ none → b = a) → (H a ≠ none → K.lookup a = none) →
      codeAny (model P w) callerA (.call (.ref fa) ⟨[.ref a], []⟩) (fun r s' => r = .ok (.ret (.bool true)) ∧ OldK s₁.heap s'.heap ∧ s'.os = s₁.os ∧ AllBare s'.gens) s₁ := by
    intro H hO hS hok hA hK
    have base_of : ∀ {b : Addr} {o : Obj}, s₁.heap.get? b = some o → H b = none → (hidT s₁.heap H).get? b = some o := fun e n => hidT_get e n
    have noA : ∀ {b : Addr} {o : Obj} {es : Array DictEntry} {ep : Nat}, s₁.heap.get? b = some o → o.data = .dict es ep → H b = none := fun {b o es ep} e d => by
      cases q : H b with
      | none => rfl
      | some u =>
        have e' : b = a := hA b (by rw [q]; simp)
        subst e'
        rw [ha] at e; cases e
        have d' : Data.seq vs.toArray _ = Data.dict es ep := d
        cases d'
    have nsK : ∀ {b : Addr} {m : Str → Option Value}, s₁.heap.Ns b m → (hidT s₁.heap H).Ns b m := fun {b m} ⟨o, es, ep, e, d, r⟩ => ⟨o, es, ep, base_of e (noA e d), d, r⟩
    have hKb : K.In (hidT s₁.heap H) := fun b o e => base_of (KX b o e) (by
      cases q : H b with
      | none => rfl
      | some u =>
        have e' : b = a := hA b (by rw [q]; simp)
        subst e'
        rw [hK (by rw [q]; simp)] at e; cases e)
    have hM : Mod K mg (hidT s₁.heap H) := ⟨hKb, nsK hns, ⟨mb, nsK hb, hbb⟩, let ⟨mc, h1, h2⟩ := hlim; ⟨mc, nsK h1, h2⟩⟩
    have e0 : Env0 P w K mg (hidT s₁.heap H) callerA [] s₁ H := ⟨rfl, hM, fun b o e => of_hidT e, Nat.le_of_eq (hidT_size _ _), trivial, fun b hb => absurd (show b ∈ ([] : List Addr) from hb) (by simp), hok, .of_eq hg⟩
    refine codeAny_mono ((F _ hKb (nsK hns)).run callerA [] s₁ H ⟨[.ref a], []⟩ [.ref a] [.ref a] _ _ hr e0 (hbind s₁ (.ref a)) (.cons rfl .nil) (hsp H hO hS)) fun r s' h => ?_
    cases r with
    | error e => exact (hCX H e s' h).elim
    | ok fl =>
      cases fl with
      | next => exact False.elim h
      | brk => exact False.elim h
      | cont => exact False.elim h
      | ret u =>
        obtain ⟨v, H', os, bare, un, hok', r', q⟩ := h
        have q' : v = .bl true := q
        subst q'
        obtain rfl : u = Value.bool true := r'
        refine ⟨rfl, OldK.of_keep fun b o e => ?_, os, bare⟩
        cases q : H b with
        | none => exact un.keep b o e q (by intro z; exact absurd (show b ∈ ([] : List Addr) from z) (by simp)) (by simp)
        | some u =>
          rcases hO b with z | ⟨ob, xs, z⟩
          · rw [q] at z; cases z
          · have z2 := un.frzs b ob _ z
            obtain ⟨e1, _⟩ := hok b _ z
            obtain ⟨e2, _⟩ := hok' b _ z2
            rw [e] at e1; cases e1
            exact e2
  cases hk : K.lookup a with
  | some o =>
    -- the script is one of the module's own objects
    have e := KX a o hk
    rw [ha] at e
    cases e
    refine core (fun _ => none) (fun _ => .inl rfl) (.inr ⟨_, vs.toArray, _, hk, rfl, rfl, rfl, by rw [List.size_toArray, lenV]; exact hl, by simpa using rv⟩) (fun b u z => by have z' : (none : Option HO) = some u := z; cases z') (fun b z => absurd rfl z) fun z => absurd rfl z
  | none =>
    refine core (fun b => if b = a then some (.frz { cls := .type "list", data := .seq vs.toArray } (.lst (ns.map V.int))) else none) (fun b => ?_) (.inl (.inr ⟨{ cls := .type "list", data := .seq vs.toArray }, if_pos rfl⟩)) (fun b u z => ?_) (fun b z => ?_) fun _ => hk
    · by_cases hb : b = a
      · exact .inr ⟨_, _, if_pos hb⟩
      · exact .inl (if_neg hb)
    · by_cases hb : b = a
      · have z' := (if_pos hb).symm.trans z
        cases z'
        subst hb
        exact ⟨ha, by rw [List.length_map]; exact hl, vs, _, rv, ha⟩
      · have z' := (if_neg hb).symm.trans z
        cases z'
    · by_cases hb : b = a
      · exact hb
      · exact absurd (if_neg hb) z
end L2
namespace L2
open PySem PySem.Spec PyProof.Rows
abbrev KOf {K : PySem.W.Frag} {h : Heap} (_ : K.In h) : PySem.W.Frag := K
theorem walk_of {l : PySem.W.OpenLaw} {n k : Nat} {q : Program} {loose : List Str} {XP : (Str → Option Value) → Heap → Prop} {YP : World → Heap → Prop} {d : DefRec} {K : Params → PySem.W.Frag} {CX : World → CXT} {sp : World → Sp} {x : Str}
    (hn : l.most = some n) (hn2 : n ≤ sizeLine) (hdf : d.params.defaults = []) (hr : Room k callerA)
    (hY : ∀ (w : World) (h : Heap), YP w h → (K w.params).In h)
    (F : ∀ (w : World) (mg : Str → Option Value) (fa : Addr) (h : Heap), (K w.params).In h → h.Ns mainGlobals mg → mg d.name = some (.ref fa) →
      ∃ fd : FuncData, (∀ (s : Shared) (u : Value), BindsTo s fd ⟨[u], []⟩ [(x, u)]) ∧
        ∀ base : Heap, (K w.params).In base → base.Ns mainGlobals mg → FnOk l.prog w (K w.params) mg base (CX w) k fa fd [x] (sp w))
    (hsp : ∀ (w : World) (H : Hp) (a : Addr) (ns : List Int), ns.length ≤ n → Only H → SqL (K w.params) H a (ns.map V.int) → sp w [.ref a] H (fun v _ => v = .bl true) fun _ _ _ => False)
    (hCX : ∀ (w : World) (H : Hp) (s : Shared) (e : Value) (s' : Shared), CX w [] H s (fun _ _ _ => False) e s' → False) :
    PySem.W.WalkO q loose XP YP l.row.toRowW d [] (fun f vs => PySem.call f vs) := by
  refine Att.attach_call hn hdf fun w s₀ s₁ mg mb fa o pm cd doc a vs ns G Y ho hd hcd hmg hobj hints hlen hg => ?_
  have KX := hY w _ Y
  obtain ⟨fd, hb, hF⟩ := F w mg fa _ KX G.T.g hmg
  exact law_call KX G.T.g G.T.b G.T.builtins G.T.nolimit hg hobj hints (Nat.le_trans hlen hn2) hr hF hb (fun H hO hS => hsp w H a ns hlen hO hS) fun H e s' => hCX w H s₁ e s'
end L2
/- THE LAST THEOREM (shape; LID, My.* are yours):
   My.Adr: a structure of the addresses that your layer names (classes, functions); My.Txt K t: a structure (Prop) of the equations over K;
   My.txt_mk : {K} {implicit addresses ..} (e1 : nsIn K mainGlobals "law" = some (some (.ref f))) (e2 : K.lookup f = some ⟨oc, od, .func (fnOf "law" "law" params body scope dV kV doc pm an cdv ct), sl⟩) (e3 : codeIn K cdv "law" = true) .. : ∃ t, My.Txt K t
set_option maxRecDepth 100000 in
set_option maxHeartbeats 0 in
theorem PySem.Challenge.cw_LID_holds : PySem.Challenge.rw_LID.Holds := by
  w_on; o_law; k_head; (case hw => w_witness2)
  k_fill
  refine L2.walk_of (l := PySem.Challenge.rw_LID) (n := 63) (k := 40) (x := "script") (CX := fun w => ..) (sp := fun _ => My.sp_law) rfl (by decide) rfl ⟨rfl, by decide, by decide⟩ (fun w h Y => PySem.W.kIn_of Y) ?F ?S ?C
  case F =>
    intro w mg fa h KX G hmg
    have T : ∃ t, My.Txt (L2.KOf KX) t := by
      dsimp only [L2.KOf]                          -- K must stand as «<heap const> w.params» for k_is
      refine' My.txt_mk ?e1 ?e2 ?e3 ..
      (case e1 => PySem.W.k_is)                    -- in the order: a name -> its address -> its object -> its parts
      (case e2 => PySem.W.k_is)
      ..
    obtain ⟨t, T⟩ := T
    have e0 := hmg.symm.trans (PySem.W.mg_of KX G T.law)
    cases e0                                       -- fa is the law's own address
    exact ⟨_, fun s u => .of_eq rfl, fun base kb nb => My.law_fn T kb nb⟩     -- if «.of_eq rfl» comes too early: refine' ⟨_, ?b, fun base kb nb => My.law_fn T kb nb⟩; exact fun s u => .of_eq rfl
  case S => exact fun w H a ns hl hO hS => ..
  case C => exact ..
(the tactic k_is has no namespace: write k_is) -/
namespace L2
open PySem PySem.Spec PyProof.Rows
def defArgs (s : Stmt) : Arguments := match s with
  | .FunctionDef _ a _ _ _ _ _ _ _ _ => a
  | _ => { posonlyargs := [], args := [], vararg := none, kwonlyargs := [], kw_defaults := [], kwarg := none, defaults := [] }
def defBody (s : Stmt) : List Stmt := match s with
  | .FunctionDef _ _ b _ _ _ _ _ _ _ => b
  | _ => []
def defScope (s : Stmt) : Scope := match s with
  | .FunctionDef _ _ _ _ _ _ sc _ _ _ => sc
  | _ => { kind := .function, names := [], isGenerator := false, isCoroutine := false }
abbrev CX0 : CXT := fun _ _ _ _ _ _ => False
abbrev E0 : XK := fun _ _ _ => False
theorem pass0 {X : Cx} : Passes CX0 X E0 := fun _ _ _ _ _ _ _ h => h.elim
structure Fun (K : PySem.W.Frag) (x qual : Str) (st : Stmt) (f : Addr) (fd : FuncData) : Prop where
  ex : ∃ (oc : Value) (od : Option Addr) (kV doc pm : Value) (an : Option Addr) (cdv ct : Value) (osl : Array (Option Value)),
    fd = PySem.W.fnOf x qual (defArgs st) (defBody st) (defScope st) .none kV doc pm an cdv ct ∧ K.lookup f = some ⟨oc, od, .func fd, osl⟩ ∧ PySem.W.codeIn K cdv qual = true
  kp : PySem.W.keepIn K (.ref f) = true
section
variable {P : Program} {w : World} {K : PySem.W.Frag} {mg : Str → Option Value} {base : Heap}
theorem Fun.ok {x qual : Str} {st : Stmt} {f : Addr} {fd : FuncData} {N ps : List Str} {k : Nat} {sp : Sp} (F : Fun K x qual st f fd) (S : FnScope N ps (defScope st)) (len : ∀ vs H Q E, sp vs H Q E → vs.length = ps.length)
    (hbody : ∀ (cdv : Value) (A : Around) (outer : List Env) (s : Shared) (H : Hp) (vs : List V) (Q : VK) (E : XK), Room k (A.deeper (envOfC qual (defScope st) s.heap.objs.size f cdv)) → sp vs H Q E →
      ∃ t, PSs (cxOf CX0 P w K mg base N qual (defScope st) f cdv A outer s H E).nox (defBody st) t ∧ t { nx := fun _ H' => Q .non H', rt := Q } (start N vs) H) : FnOk P w K mg base CX0 (k + 1) f fd ps sp := by
  obtain ⟨oc, od, kV, doc, pm, an, cdv, ct, osl, rfl, lk, hcd⟩ := F.ex
  refine fn_of lk hcd S len fun A outer s H vs Q E hr hsp => ?_
  obtain ⟨t, h, q⟩ := hbody cdv A outer s H vs Q E hr hsp
  exact ⟨t, h.nox, q⟩
theorem Fun.binds {x qual : Str} {st : Stmt} {f : Addr} {fd : FuncData} {ps : List Str} (F : Fun K x qual st f fd)
    (h : ∀ (kV doc pm : Value) (an : Option Addr) (cdv ct : Value) (us : List Value), us.length = ps.length → bindArgs (PySem.W.fnOf x qual (defArgs st) (defBody st) (defScope st) .none kV doc pm an cdv ct) ⟨us, []⟩ = pure (ps.zip us)) : Binds K fd ps [] := by
  obtain ⟨oc, od, kV, doc, pm, an, cdv, ct, osl, rfl, lk, hcd⟩ := F.ex
  exact .all (h kV doc pm an cdv ct)
theorem fun_mk {x qual : Str} {st : Stmt} {f : Addr} {oc : Value} {od an : Option Addr} {osl : Array (Option Value)} {kV doc pm cdv ct : Value} (l : K.lookup f = some ⟨oc, od, .func (PySem.W.fnOf x qual (defArgs st) (defBody st) (defScope st) .none kV doc pm an cdv ct), osl⟩)
    (c : PySem.W.codeIn K cdv qual = true) (k : PySem.W.keepIn K (.ref f) = true) : Fun K x qual st f (PySem.W.fnOf x qual (defArgs st) (defBody st) (defScope st) .none kV doc pm an cdv ct) := ⟨⟨oc, od, kV, doc, pm, an, cdv, ct, osl, rfl, l, c⟩, k⟩
end
theorem hu_of {A : Around} {k : Nat} (hr : Room k A) : A.units + 1 < cLine := Nat.lt_of_le_of_lt (Nat.add_le_add_left (by decide : 1 ≤ 64) _) hr.units
theorem small1000 {n : Nat} (h : n ≤ 1000) : n < sizeLine := Nat.lt_of_le_of_lt h (by decide)
section
variable {X : Cx}
theorem pv (i : Nat) {x : Str} {pos : Pos} (hN : X.N[i]? = some x := by rfl) (hv : Vis X.env.scope x := by first | exact Or.inl rfl | exact Or.inr (Or.inl rfl) | exact Or.inr (Or.inr rfl)) (hd : (x == ("__debug__" : Str)) = false := by decide)
    (hcd : (x == ("__classdict__" : Str)) = false := by decide) : PE X (.Name x pos) (tVar i) := pe_var hN hv hd hcd
end
theorem iteF {A B : Prop} (h : B) : if false = true then A else B := by
  rw [if_neg Bool.false_ne_true]
  exact h
theorem iteT {A B : Prop} (h : A) : if true = true then A else B := by
  rw [if_pos rfl]
  exact h
theorem ite2 {c A B : Prop} [Decidable c] (h1 : c → A) (h2 : ¬ c → B) : if c then A else B := by
  by_cases h : c
  · rw [if_pos h]
    exact h1 h
  · rw [if_neg h]
    exact h2 h
theorem iteNS {c A B : Prop} [Decidable c] (hc : c) (h : B) : if (!decide c) = true then A else B := by
  rw [decide_eq_true hc]
  exact iteF h
def Same (H H' : Hp) : Prop := ∀ b o, H b = some o → H' b = some o
theorem Same.refl (H : Hp) : Same H H := fun _ _ h => h
theorem Same.trans {H H1 H2 : Hp} (a : Same H H1) (b : Same H1 H2) : Same H H2 := fun c o h => b c o (a c o h)
theorem Same.free {H H' : Hp} (e : Same H H') {l : Addr} (h : H' l = Option.none) : H l = Option.none := by
  cases q : H l with
  | none => rfl
  | some o =>
    rw [e l o q] at h
    cases h
theorem Same.seq {K : PySem.W.Frag} {H H' : Hp} {a : Addr} {xs : List V} (e : Same H H') (h : SqL K H a xs) : SqL K H' a xs := by
  rcases h with (h | ⟨o, h⟩) | h
  · exact .inl (.inl (e _ _ h))
  · exact .inl (.inr ⟨o, e _ _ h⟩)
  · exact .inr h
end L2
namespace L2
open PySem PySem.Spec PyProof.Rows
section
variable {X : Cx}
end
section
variable {κ : Type} [DecidableEq κ]
end
end L2
set_option Elab.async false
set_option linter.all false
set_option maxRecDepth 100000
namespace L2
open PySem PySem.Spec PyProof.Rows
def lcx (X : Cx) (N' : List Str) (scope : Scope) (cl : List (Str × Addr)) (C : Addr) (s₀ : Shared) (H₀ : Hp) (ex : List Addr) : Cx :=
  { prog := X.prog, w := X.w, K := X.K, mg := X.mg, base := X.base, A := X.A, N := N', s₀ := s₀, H₀ := H₀, env := compEnvC scope cl C X.env, outer := X.stack, stack := X.stack, ex := ex, fn := fun _ => false, calm := X.calm, pn := [], xe := fun _ _ => False }
abbrev Cap := List (Option Nat)
def inn (js : Cap) (σ : St) : St := js.map fun o => o.bind fun j => (σ[j]?).join
theorem clos_go {env : Env} (has : ∀ x, (env.kindOf x = some .cell ∨ env.kindOf x = some .free) → ∃ c, env.cells.lookup x = some c) :
    ∀ (names : List (Str × NameKind)) (acc : List (Str × Addr)), (∀ p ∈ names, p.2 = .free → env.kindOf p.1 = some .cell ∨ env.kindOf p.1 = some .free) → (∀ x c, acc.lookup x = some c → env.cells.lookup x = some c) →
      ∃ cl, (forIn names acc (fun (p : Str × NameKind) (cs : List (Str × Addr)) => (do
          if p.2 == NameKind.free then
            let c ← cellOf env p.1
            pure (ForInStep.yield ((p.1, c) :: cs))
          else pure (ForInStep.yield cs) : Sem (ForInStep (List (Str × Addr)))))) = pure cl ∧ (∀ x c, cl.lookup x = some c → env.cells.lookup x = some c) ∧
        (∀ x, (acc.lookup x).isSome = true → (cl.lookup x).isSome = true) ∧ ∀ p ∈ names, p.2 = .free → (cl.lookup p.1).isSome = true := by
  intro names
  induction names with
  | nil => intro acc _ ha; exact ⟨acc, rfl, ha, fun _ h => h, fun _ h => nomatch h⟩
  | cons p r ih =>
    intro acc hn ha
    obtain ⟨n, k⟩ := p
    rw [List.forIn_cons]
    by_cases hk : k = .free
    · subst hk
      obtain ⟨c, hc⟩ := has n (hn (n, .free) List.mem_cons_self rfl)
      have e : cellOf env n = (pure c : Sem Addr) := by
        unfold cellOf
        rw [hc]
      obtain ⟨cl, h1, h2, h3, h4⟩ := ih ((n, c) :: acc) (fun q hq => hn q (List.mem_cons_of_mem _ hq)) (fun x c' hx => by
        rw [List.lookup_cons] at hx
        cases hb : x == n with
        | true =>
          rw [hb] at hx
          cases hx
          rw [show x = n from eq_of_beq hb]
          exact hc
        | false =>
          rw [hb] at hx
          exact ha x c' hx)
      refine ⟨cl, ?_, h2, fun x hx => h3 x ?_, fun q hq hf => ?_⟩
      · simp only [beq_self_eq_true, if_true, e]
        exact h1
      · rw [List.lookup_cons]
        cases hb : x == n with
        | true => rfl
        | false => exact hx
      · rcases List.mem_cons.mp hq with rfl | hq
        · exact h3 _ (by simp [List.lookup_cons])
        · exact h4 q hq hf
    · have hb : (k == NameKind.free) = false := by simpa using hk
      obtain ⟨cl, h1, h2, h3, h4⟩ := ih acc (fun q hq => hn q (List.mem_cons_of_mem _ hq)) ha
      refine ⟨cl, ?_, h2, h3, fun q hq hf => ?_⟩
      · simp only [hb, Bool.false_eq_true, if_false]
        exact h1
      · rcases List.mem_cons.mp hq with rfl | hq
        · exact absurd hf hk
        · exact h4 q hq hf
theorem clos_of {env : Env} {scope : Scope} (has : ∀ x, (env.kindOf x = some .cell ∨ env.kindOf x = some .free) → ∃ c, env.cells.lookup x = some c)
    (hn : ∀ p ∈ scope.names, p.2 = .free → env.kindOf p.1 = some .cell ∨ env.kindOf p.1 = some .free) :
    ∃ cl, closureFor scope env = pure cl ∧ (∀ x c, cl.lookup x = some c → env.cells.lookup x = some c) ∧ ∀ p ∈ scope.names, p.2 = .free → (cl.lookup p.1).isSome = true := by
  obtain ⟨cl, h1, h2, _, h4⟩ := clos_go has scope.names [] hn (fun _ _ h => nomatch h)
  refine ⟨cl, ?_, h2, h4⟩
  unfold closureFor
  show (do let cs ← forIn scope.names [] _; pure cs) = _
  refine Eq.trans ?_ h1
  simp only [bind_pure]
end L2
set_option Elab.async false
set_option linter.all false
set_option maxRecDepth 100000
namespace L2
open PySem PySem.Spec PyProof.Rows
section
variable {prog : Program} {w : World} {A : Around} {E : Value → Shared → Prop} {R : Result → Shared → Prop} {s : Shared}
theorem compLoop_go {elt target iter : Expr} {ifs : List Expr} {scope : Scope} {pos : Pos} {it acc : Value} {env : Env} (I : Nat → Shared → Prop)
    (turn : ∀ n s, I n s → wpAny (model prog w) A (pyNext it) (fun r s₁ => match r with
      | none => R (.ok .next) s₁
      | some v => wpAny (model prog w) A (letOwnedTupleGo target it v) (fun _ s₁' => wpAny (model prog w) A (assign target env v) (fun _ s₂ =>
          wpAny (model prog w) A (forIn ifs true fun c r => if r = true then do let ok ← isTrue c env (eval c env); pure (ForInStep.yield ok) else pure (ForInStep.yield r)) (fun ok s₃ =>
            if ok = true then wpAny (model prog w) A (eval elt env) (fun x s₄ =>
              wpAny (model prog w) A (call (.builtin "list.append") [acc, x]) (fun _ s₅ => ∃ m, m < n ∧ I m s₅) (fun _ _ => False) s₄) (fun _ _ => False) s₃
            else ∃ m, m < n ∧ I m s₃) (fun _ _ => False) s₂) (fun _ _ => False) s₁') (fun _ _ => False) s₁) (fun _ _ => False) s)
    (n : Nat) (h : I n s) :
    codeAny (model prog w) A (.compLoop (.ListComp elt [⟨target, iter, ifs, 0⟩] scope pos) 0 it acc env) R s := by
  refine codeAny_loop rfl I (fun n s hI => ?_) n h
  show wpAny _ A ((compTurn (.ListComp elt [⟨target, iter, ifs, 0⟩] scope pos) 0 it acc env).onRaise (fun x => do noteFrame x env; theTreesLotGoes x)) _ _ s
  refine wpAny_noted ?_
  rw [compTurn_list]
  refine wpAny_bind (wpAny_standAt (wpAny_bind (wpAny_mono (turn n s hI) (fun r s₁ h₁ => ?_) fun _ _ h' => h'.elim)))
  cases r with
  | none => exact wpAny_pure h₁
  | some v =>
    refine wpAny_bind (wpAny_mono h₁ (fun _ s₁' h₁' => ?_) fun _ _ h' => h'.elim)
    refine wpAny_bind (wpAny_mono h₁' (fun _ s₂ h₂ => wpAny_bind (wpAny_mono h₂ (fun ok s₃ h₃ => ?_) fun _ _ h' => h'.elim)) fun _ _ h' => h'.elim)
    cases ok with
    | false => exact wpAny_pure ⟨rfl, h₃⟩
    | true =>
      exact wpAny_bind (wpAny_bind (wpAny_mono h₃ (fun x s₄ h₄ => wpAny_bind (wpAny_mono h₄ (fun _ s₅ h₅ => wpAny_pure (wpAny_pure ⟨rfl, h₅⟩)) fun _ _ h' => h'.elim)) fun _ _ h' => h'.elim))
end
def PIfs (X : Cx) (ifs : List Expr) (t : TT) : Prop :=
  ∀ (pins : List (Addr × Obj)) (s : Shared) (σ : St) (H : Hp) (Q : Bool → Hp → Prop), Inv X pins σ H s → t σ H Q →
    wpAny (model X.prog X.w) X.A (forIn ifs true fun c r => if r = true then do let ok ← isTrue c X.env (eval c X.env); pure (ForInStep.yield ok) else pure (ForInStep.yield r)) (TP X pins σ Q) X.xe s
def tYes : TT := fun _ H Q => Q true H
theorem pifs_nil {X : Cx} : PIfs X [] tYes := fun _ _ _ H _ I h => wpAny_tests_nil ⟨H, I, h⟩
theorem pifs_one {X : Cx} {c : Expr} {t : TT} (h : PT X c t) : PIfs X [c] t := fun pins s σ H Q I hw => wpAny_tests_one (h pins s σ H Q I hw)
def LcGoal (J : It) (p : Addr) (js : Cap) (g : TG) (tc : TT) (te : TE) (σ : St) (H : Hp) (Q : VK) : Prop :=
  ∃ W : Nat → Nat → St → List V → Hp → Prop, (∃ m, W 0 m (inn js σ) [] (upd H p (.lst []))) ∧ ∀ i m σ' ys H, W i m σ' ys H → H p = some (.lst ys) ∧
    ((J.stop i H ∧ Q (.ref p) H) ∨ (J.go i H ∧ ys.length < sizeLine ∧ ∀ x H', J.yld i H x H' → g x σ' H' fun σ2 H2 => tc σ2 H2 fun b H3 =>
      if b = true then te σ2 H3 fun y H4 => H4 p = some (.lst ys) ∧ ∃ m', m' < m ∧ W (i + 1) m' σ2 (ys ++ [y]) (upd H4 p (.lst (ys ++ [y])))
      else ∃ m', m' < m ∧ W (i + 1) m' σ2 ys H3))
def tLC (wi : TI) (js : Cap) (g : TG) (tc : TT) (te : TE) : TE := fun σ H Q => wi σ H fun J H1 => ∀ p, H1 p = none → LcGoal J p js g tc te σ H1 Q
structure CapOk (X : Cx) (N' : List Str) (js : Cap) (scope : Scope) : Prop where
  len : js.length = N'.length
  kind : scope.kind = .function
  ncell : ∀ p ∈ scope.names, p.2 ≠ .cell
  names : ∀ p ∈ scope.names, p.2 = .local → scope.names.lookup p.1 = some .local
  free : ∀ p ∈ scope.names, p.2 = .free → X.env.kindOf p.1 = some .cell ∨ X.env.kindOf p.1 = some .free
  cap : ∀ (i j : Nat), js[i]? = some (some j) → ∃ x, N'[i]? = some x ∧ X.N[j]? = some x ∧ scope.names.lookup x = some .free
theorem lookup_mem {names : List (Str × NameKind)} {x : Str} {k : NameKind} (h : names.lookup x = some k) : (x, k) ∈ names := by
  induction names with
  | nil => cases h
  | cons p r ih =>
    obtain ⟨n, k'⟩ := p
    rw [List.lookup_cons] at h
    cases hb : x == n with
    | true =>
      rw [hb] at h
      cases h
      rw [show x = n from eq_of_beq hb]
      exact List.mem_cons_self
    | false =>
      rw [hb] at h
      exact List.mem_cons_of_mem _ (ih h)
theorem relabel_kind {scope : Scope} {env : Env} {x : Str} {k : NameKind} (h : (relabel scope env).names.lookup x = some k) : ∃ k0, scope.names.lookup x = some k0 ∧ (k = k0 ∨ (k0 = .free ∧ k = .cell)) := by
  have go : ∀ (names : List (Str × NameKind)), (names.map fun (p : Str × NameKind) => if (p.2 == NameKind.free && env.scope.kind == .function && env.kindOf p.1 == some .cell) then (p.1, NameKind.cell) else (p.1, p.2)).lookup x = some k →
      ∃ k0, names.lookup x = some k0 ∧ (k = k0 ∨ (k0 = .free ∧ k = .cell)) := by
    intro names
    induction names with
    | nil => intro h; cases h
    | cons p r ih =>
      obtain ⟨n, k'⟩ := p
      intro h
      rw [List.map_cons] at h
      by_cases hc : (k' == NameKind.free && env.scope.kind == .function && env.kindOf n == some .cell) = true
      · rw [if_pos hc] at h
        rw [List.lookup_cons] at h ⊢
        cases hb : x == n with
        | true =>
          rw [hb] at h
          cases h
          have : k' = .free := by
            cases k' <;> first | rfl | (simp at hc)
          exact ⟨k', rfl, .inr ⟨this, rfl⟩⟩
        | false =>
          rw [hb] at h
          exact ih h
      · rw [if_neg hc] at h
        rw [List.lookup_cons] at h ⊢
        cases hb : x == n with
        | true =>
          rw [hb] at h
          cases h
          exact ⟨k', rfl, .inl rfl⟩
        | false =>
          rw [hb] at h
          exact ih h
  exact go scope.names h
theorem relabel_free {scope : Scope} {env : Env} {x : Str} (h : scope.names.lookup x = some .free) : (relabel scope env).names.lookup x = some .cell ∨ (relabel scope env).names.lookup x = some .free := by
  have go : ∀ (names : List (Str × NameKind)), names.lookup x = some .free → (names.map fun (p : Str × NameKind) => if (p.2 == NameKind.free && env.scope.kind == .function && env.kindOf p.1 == some .cell) then (p.1, NameKind.cell) else (p.1, p.2)).lookup x = some .cell ∨
      (names.map fun (p : Str × NameKind) => if (p.2 == NameKind.free && env.scope.kind == .function && env.kindOf p.1 == some .cell) then (p.1, NameKind.cell) else (p.1, p.2)).lookup x = some .free := by
    intro names
    induction names with
    | nil => intro h; cases h
    | cons p r ih =>
      obtain ⟨n, k'⟩ := p
      intro h
      rw [List.map_cons]
      rw [List.lookup_cons] at h
      by_cases hc : (k' == NameKind.free && env.scope.kind == .function && env.kindOf n == some .cell) = true
      · rw [if_pos hc, List.lookup_cons]
        cases hb : x == n with
        | true => exact .inl rfl
        | false =>
          rw [hb] at h
          exact ih h
      · rw [if_neg hc, List.lookup_cons]
        cases hb : x == n with
        | true =>
          rw [hb] at h
          exact .inr h
        | false =>
          rw [hb] at h
          exact ih h
  exact go scope.names h
section
variable {X : Cx} {pins : List (Addr × Obj)} {σ : St} {H : Hp} {s : Shared}
theorem inv_block {N' : List Str} {js : Cap} {scope : Scope} {cl : List (Str × Addr)} {fp : List Addr} {h₁ : Heap} {t' : Nat} (ok : CapOk X N' js scope) (I : Inv X pins σ H s)
    (h2 : ∀ x c, cl.lookup x = some c → X.env.cells.lookup x = some c) (h3 : ∀ p ∈ scope.names, p.2 = .free → (cl.lookup p.1).isSome = true)
    (hf : ∀ b ∈ fp, FpOk X pins H b) (hlt : ∀ b ∈ fp, b < s.heap.objs.size)
    (k : ∀ b u, s.heap.get? b = some u → h₁.get? b = some u) (hn : ∃ m, h₁.Ns s.heap.objs.size m) :
    Inv (lcx X N' scope cl s.heap.objs.size s H fp) [] (inn js σ) H { s with heap := h₁, toks := t' } := by
  have fresh : H s.heap.objs.size = none := I.hok.fresh (Nat.le_refl _)
  have kind_of : ∀ x, ((relabel scope X.env).names.lookup x = some .cell ∨ (relabel scope X.env).names.lookup x = some .free) → scope.names.lookup x = some .free := fun x hx => by
    rcases hx with hx | hx
    · obtain ⟨k0, e, z⟩ := relabel_kind hx
      rcases z with z | ⟨z, _⟩
      · subst z
        exact absurd rfl (ok.ncell _ (lookup_mem e))
      · subst z; exact e
    · obtain ⟨k0, e, z⟩ := relabel_kind hx
      rcases z with z | ⟨z, z'⟩
      · subst z; exact e
      · cases z'
  have okc : (lcx X N' scope cl s.heap.objs.size s H fp).Ok := by
    refine ⟨I.ok.mod, ok.kind, I.ok.glob, I.ok.blt, Nat.le_refl _, fun x y c e1 e2 => I.ok.inj x y c (h2 x c e1) (h2 y c e2), fun x hx => ?_, fun x c hx => (nomatch hx), I.ok.hd, I.ok.frames, .inl rfl, fun b hb => ⟨Nat.ne_of_lt (hlt b hb), fun x c e => ?_⟩, I.bs, Nat.le_trans I.ok.bsz I.sz, fun b o e hb => ?_, fun b hb hb' => ?_, I.stack, I.stkFree⟩
    · have e := kind_of x hx
      have z := h3 _ (lookup_mem e) rfl
      cases q : cl.lookup x with
      | none => rw [q] at z; cases z
      | some c => exact ⟨c, q⟩
    · exact (hf b hb).2.2.2.2.1 x c (h2 x c e)
    · rcases (hf b hb).2.2.2.1 with z | z
      · exact I.ok.noex b o e z
      · exact absurd (Nat.lt_of_lt_of_le (Heap.lt_size e) (Nat.le_trans I.ok.bsz z)) (Nat.lt_irrefl _)
    · rcases List.mem_cons.mp (I.stkSub b hb') with z | z
      · exact (hf b hb).2.1 z
      · exact (hf b hb).2.2.1 z
  obtain ⟨m, hn⟩ := hn
  refine ⟨okc, rfl, I.bare, Un.kept k, ⟨m, hn, fun i x v e1 e2 e3 => ?_⟩, fun x c e => ?_, fresh, fun x c e => I.freeC x c (h2 x c e), (fun p hp => nomatch hp), I.hok.kept k, by show (inn js σ).length = N'.length; unfold inn; rw [List.length_map]; exact ok.len⟩
  · have e2 : (inn js σ)[i]? = some (some v) := e2
    unfold inn at e2
    rw [List.getElem?_map] at e2
    cases q : js[i]? with
    | none => rw [q] at e2; cases e2
    | some o =>
      rw [q] at e2
      cases o with
      | none => cases e2
      | some j =>
        obtain ⟨x', n1, n2, n3⟩ := ok.cap i j q
        have e1 : N'[i]? = some x := e1
        rw [n1] at e1
        cases e1
        have e2 : (σ[j]?).join = some v := Option.some.inj e2
        have e2' : σ[j]? = some (some v) := by
          cases q2 : σ[j]? with
          | none => rw [q2] at e2; cases e2
          | some o2 => rw [q2] at e2; exact congrArg some e2
        obtain ⟨mo, hno, hlo⟩ := I.loc
        have kx := ok.free _ (lookup_mem n3) rfl
        have vis : Vis X.env.scope x := by
          rcases kx with z | z
          · exact .inr (.inl z)
          · exact .inr (.inr z)
        obtain ⟨u, r, l⟩ := hlo j x v n2 e2' vis
        refine ⟨u, r, .inr ⟨relabel_free n3, ?_⟩⟩
        rcases l with ⟨z, _⟩ | ⟨_, c, hc, hcell⟩
        · rcases kx with y | y <;> (rw [z] at y; cases y)
        · have z := h3 _ (lookup_mem n3) rfl
          cases q3 : cl.lookup x with
          | none => rw [q3] at z; cases z
          | some c' =>
            have := h2 x c' q3
            rw [hc] at this
            cases this
            exact ⟨c, q3, hcell.keeps k⟩
  · obtain ⟨v, hv⟩ := I.cell x c (h2 x c e)
    exact ⟨v, hv.keeps k⟩
end
end L2
set_option Elab.async false
set_option linter.all false
set_option maxRecDepth 100000
namespace L2
open PySem PySem.Spec PyProof.Rows
section
variable {X : Cx} {tg iter elt : Expr} {ifs : List Expr} {wi : TI} {js : Cap} {g : TG} {tc : TT} {te : TE} {N' : List Str} {scope : Scope} {pos : Pos}
theorem lc_block {pins : List (Addr × Obj)} {σ : St} {H : Hp} {s : Shared} {E : Value → Shared → Prop} {Q : VK} {J : It} {it : Addr} {fp : List Addr} {tn : Nat → Heap → Prop} {cl : List (Str × Addr)}
    (hc : X.calm = true) (ok : CapOk X N' js scope)
    (h2 : ∀ x c, cl.lookup x = some c → X.env.cells.lookup x = some c) (h3 : ∀ p ∈ scope.names, p.2 = .free → (cl.lookup p.1).isSome = true)
    (hg : ∀ cl C s₀ H₀ ex, PG (lcx X N' scope cl C s₀ H₀ ex) tg g) (ht : ∀ cl C s₀ H₀ ex, PIfs (lcx X N' scope cl C s₀ H₀ ex) ifs tc) (he : ∀ cl C s₀ H₀ ex, PE (lcx X N' scope cl C s₀ H₀ ex) elt te)
    (I : Inv X pins σ H s) (T : Turn X.prog X.w X.K tg J fp it tn) (st : tn 0 s.heap) (hf : ∀ b ∈ fp, FpOk X pins H b)
    (hw : ∀ p, H p = none → LcGoal J p js g tc te σ H Q) :
    wpAny (model X.prog X.w) X.A (newList []) (fun acc s₃ => wpAny (model X.prog X.w) X.A (newFunctionEnv scope X.env.globals cl [] X.env.qual none .none (some X.env)) (fun cenv s₄ =>
      codeAny (model X.prog X.w) X.A (.compStart (.ListComp elt [⟨tg, iter, ifs, 0⟩] scope pos) 0 (.ref it) acc { cenv with scope := relabel scope X.env })
        (fun r s' => r = .ok .next ∧ (∃ m, s'.heap.Ns cenv.locals m) ∧ ∃ v H', RelV v acc ∧ Inv X pins σ H' s' ∧ FpOk X pins H' cenv.locals ∧ Q v H') s₄) E s₃) E s := by
  have objs := T.obj _ _ st
  refine wpAny_newObj_type ?_ (by show 0 ≤ sizeLine; decide)
  -- the list
  obtain ⟨W, ⟨m0, w0⟩, turn⟩ := hw s.heap.objs.size (I.hok.fresh (Nat.le_refl _))
  generalize hp : s.heap.objs.size = p at *
  have kp : ∀ b u, s.heap.get? b = some u → (s.heap.push { cls := .type "list", dict := none, data := .seq ([] : List Value).toArray }).get? b = some u := fun b u e => Heap.get?_push_of_some _ e
  have I3 : Inv X pins σ (upd H p (.lst [])) { s with heap := s.heap.push { cls := .type "list", dict := none, data := .seq ([] : List Value).toArray } } := by
    refine I.laid (t' := s.toks) kp (by rw [hp]; exact Nat.le_refl _) ⟨Nat.zero_le _, [], 0, .nil, ?_⟩
    have := Heap.get?_push_size s.heap (o := { cls := .type "list", dict := none, data := .seq ([] : List Value).toArray }) rfl
    rw [hp] at this
    exact this
  have fne : ∀ b ∈ fp, b ≠ p := fun b hb => by
    obtain ⟨o, e, _⟩ := objs b hb
    have := Heap.lt_size e
    rw [← hp]
    exact Nat.ne_of_lt this
  have hf3 : ∀ b ∈ fp, FpOk X pins (upd H p (.lst [])) b := fun b hb => ⟨by rw [upd_ne (fne b hb)]; exact (hf b hb).1, (hf b hb).2⟩
  have st3 : tn 0 (s.heap.push { cls := .type "list", dict := none, data := .seq ([] : List Value).toArray }) := T.keep _ _ _ st fun b _ o e => kp b o e
  have lt3 : ∀ b ∈ fp, b < (s.heap.push { cls := .type "list", dict := none, data := .seq ([] : List Value).toArray }).objs.size := fun b hb => by
    obtain ⟨o, e, _⟩ := objs b hb
    exact Heap.lt_size (kp b o e)
  generalize hs3 : ({ s with heap := s.heap.push { cls := .type "list", dict := none, data := .seq ([] : List Value).toArray } } : Shared) = s3 at *
  have eh : s.heap.push { cls := .type "list", dict := none, data := .seq ([] : List Value).toArray } = s3.heap := by rw [← hs3]
  rw [eh] at st3 lt3
  refine wpAny_newFunctionEnv ok.ncell (by intro y hy; simp at hy) (fun h₁ hns₁ hsb₁ => ?_) ok.kind
  try dsimp only at hns₁ hsb₁ ⊢
  have k4 : ∀ b u, s3.heap.get? b = some u → h₁.get? b = some u := fun b u e => (hsb₁.2 b (Nat.ne_of_lt (Heap.lt_size e))).trans (Heap.get?_push_of_some _ e)
  have I4 := inv_block (cl := cl) (h₁ := h₁) (t' := s3.toks + ([] : List (Str × Value)).length) ok I3 h2 h3 hf3 lt3 k4 ⟨_, hns₁⟩
  have st4 : tn 0 h₁ := T.keep _ _ _ st3 fun b _ o e => k4 b o e
  generalize hX : lcx X N' scope cl s3.heap.objs.size s3 (upd H p (.lst [])) fp = X' at I4
  have hg' : PG X' tg g := by rw [← hX]; exact hg _ _ _ _ _
  have ht' : PIfs X' ifs tc := by rw [← hX]; exact ht _ _ _ _ _
  have he' : PE X' elt te := by rw [← hX]; exact he _ _ _ _ _
  have eP : X'.prog = X.prog := by rw [← hX]; rfl
  have ew : X'.w = X.w := by rw [← hX]; rfl
  have eK : X'.K = X.K := by rw [← hX]; rfl
  have ec : X'.calm = true := by rw [← hX]; exact hc
  have eA : X'.A = X.A := by rw [← hX]; rfl
  have ex : X'.xe = fun _ _ => False := by rw [← hX]; rfl
  have eE : X'.env = compEnvC scope cl s3.heap.objs.size X.env := by rw [← hX]; rfl
  have eEx : X'.ex = fp := by rw [← hX]; rfl
  have eN : X'.pn = [] := by rw [← hX]; rfl
  -- the iterator's own objects, seen from within
  have stat : ∀ {H' : Hp}, (∀ b ∈ fp, H' b = none) → ∀ b ∈ fp, FpOk X' [] H' b := fun {H'} hn b hb => by
    have okc := I4.ok
    refine ⟨hn b hb, (okc.exf b (by rw [eEx]; exact hb)).1, okc.exfs b (by rw [eEx]; exact hb), .inl (by rw [eEx]; exact hb), (okc.exf b (by rw [eEx]; exact hb)).2, fun q hq => ?_⟩
    rw [eN] at hq
    cases hq
  have loop : ∀ s₄ : Shared, s₄ = { s3 with heap := h₁, toks := s3.toks + ([] : List (Str × Value)).length } →
      codeAny (model X.prog X.w) X.A (.compLoop (.ListComp elt [⟨tg, iter, ifs, 0⟩] scope pos) 0 (.ref it) (.ref p) (compEnvC scope cl s3.heap.objs.size X.env))
        (fun r s' => r = .ok .next ∧ (∃ m, s'.heap.Ns s3.heap.objs.size m) ∧ ∃ v H', RelV v (.ref p) ∧ Inv X pins σ H' s' ∧ FpOk X pins H' s3.heap.objs.size ∧ Q v H') s₄ := by
    rintro s₄ rfl
    refine compLoop_go (fun n s' => ∃ i σ' ys H', Inv X' [] σ' H' s' ∧ tn i s'.heap ∧ (∀ b ∈ fp, H' b = none) ∧ W i n σ' ys H') ?_ m0 ⟨0, _, [], _, I4, st4, fun b hb => (hf3 b hb).1, w0⟩
    rintro n s5 ⟨i, σ5, ys, H5, I5, st5, fr5, w5⟩
    obtain ⟨hp5, tu⟩ := turn i n σ5 ys H5 w5
    rcases tu with ⟨stop, qn⟩ | ⟨go, hz, step⟩
    · have D := T.done X' eP ew eK ec i [] s5 σ5 H5 (fun _ _ => False) I5 (stat fr5) st5 stop
      rw [eA] at D
      refine thn D fun r s6 ⟨hr, I6⟩ => ?_
      subst hr
      refine ⟨rfl, ?_, .ref p, H5, rfl, ?_, ?_, qn⟩
      · obtain ⟨m, hm, _⟩ := I6.loc
        rw [eE] at hm
        exact ⟨m, hm⟩
      · have b6 := I6.base
        have ho := I6.os
        have hk := I6.hok
        have hb := I6.bare
        subst hX
        exact I3.call' (ch := fp) ho b6 hk hb fun b hb' => ⟨(hf b hb').2.2.2.1, (hf b hb').2.1, (hf b hb').2.2.2.2.1, (hf b hb').2.2.2.2.2⟩
      · have fr := I6.free
        rw [eE] at fr
        exact I3.fpOk (Nat.le_refl _) fr
    · have D := T.item X' eP ew eK ec i [] s5 σ5 H5 (fun _ _ => False) I5 (stat fr5) st5 go
      rw [eA] at D
      refine thn D fun r s6 ⟨u, hr, h6⟩ => ?_
      subst hr
      refine thn h6 fun _ s7 ⟨x, H7, I7, r7, y7, st7, fr7⟩ => ?_
      have I7' := I7.pinned (stat fr7) (T.obj _ _ st7)
      have G := hg' _ s7 σ5 H7 x u _ I7' r7 (step x H7 y7)
      rw [eP, ew, eA, ex, eE] at G
      refine thn G fun _ s8 ⟨σ8, H8, I8, q8⟩ => ?_
      have Tt := ht' _ s8 σ8 H8 _ I8 q8
      rw [eP, ew, eA, ex, eE] at Tt
      refine thn Tt fun b s9 ⟨H9, I9, q9⟩ => ?_
      have again : ∀ {s' : Shared} {ys' : List V} {H' : Hp}, Inv X' ([] ++ pinsAt fp s7.heap) σ8 H' s' → (∃ m', m' < n ∧ W (i + 1) m' σ8 ys' H') →
          ∃ m, m < n ∧ ∃ i σ' ys H', Inv X' [] σ' H' s' ∧ tn i s'.heap ∧ (∀ b ∈ fp, H' b = none) ∧ W i m σ' ys H' := fun {s' ys' H'} I' ⟨m', hm, w'⟩ => by
        refine ⟨m', hm, i + 1, σ8, ys', H', I'.unpinned, T.keep _ _ _ st7 fun b hb o e => (I'.pin (b, o) (List.mem_append_right _ (List.mem_append_right _ (mem_pinsAt hb e)))).1, fun b hb => ?_, w'⟩
        obtain ⟨o, e, d⟩ := T.obj _ _ st7 b hb
        exact (I'.pin (b, o) (List.mem_append_right _ (List.mem_append_right _ (mem_pinsAt hb e)))).2.1
      cases b with
      | false => exact again I9 q9
      | true =>
        have Ee := he' _ s9 σ8 H9 _ I9 q9
        rw [eP, ew, eA, ex, eE] at Ee
        show wpAny _ _ _ _ _ _
        refine thn Ee fun xv s10 ⟨y, H10, I10, r10, hp10, q10⟩ => ?_
        have Ap := mt_append (X := X') _ s10 σ8 H10 (.ref p) [y] (.ref p) [xv] (fun _ H' => H' = upd H10 p (.lst (ys ++ [y]))) I10 rfl (.cons r10 .nil) ⟨p, ys, y, rfl, rfl, hp10, hz, rfl⟩
        rw [eP, ew, eA, ex] at Ap
        refine thn Ap fun _ s11 ⟨_, H11, I11, _, e11⟩ => ?_
        subst e11
        exact again I11 q10
  exact codeAny_compStart_list (loop _ rfl) (T.self _ 0 _ _ _ st4 (loop _ rfl))
theorem pe_lc (hc : X.calm = true) (ok : CapOk X N' js scope) (hi : PI X tg iter wi)
    (hg : ∀ cl C s₀ H₀ ex, PG (lcx X N' scope cl C s₀ H₀ ex) tg g) (ht : ∀ cl C s₀ H₀ ex, PIfs (lcx X N' scope cl C s₀ H₀ ex) ifs tc) (he : ∀ cl C s₀ H₀ ex, PE (lcx X N' scope cl C s₀ H₀ ex) elt te)
    (hs : ∀ x, foldedSetIterable iter X.env x = pure x := by intro _; rfl) : PE X (.ListComp elt [⟨tg, iter, ifs, 0⟩] scope pos) (tLC wi js g tc te) := by
  intro pins s σ H Q I h
  obtain ⟨cl, c1, c2, c3⟩ := clos_of (scope := scope) I.ok.has ok.free
  rw [eval_ListComp]
  refine wpAny_comprehension_free (use := none) rfl hs c1 ok.kind ok.names (thn (hi pins s σ H _ I h) fun v s1 h1 => thn h1 fun itv s2 h2 => ?_)
  obtain ⟨it, fp, tn, J, H2, e, I2, T, st2, f2, hw⟩ := h2
  subst e
  refine wpAny_mono (lc_block (iter := iter) (pos := pos) hc ok c2 c3 hg ht he I2 T st2 f2 hw) (fun acc s3 h3 => wpAny_mono h3 (fun cenv s4 h4 => ?_) fun _ _ z => z) fun _ _ z => z
  refine codeAny_mono h4 fun r s5 h5 => ?_
  obtain ⟨rfl, ⟨m, hm⟩, v, H5, rv, I5, f5, q5⟩ := h5
  refine ⟨m, hm, fun h' sb => ?_⟩
  obtain ⟨f0, f1, _, f3, f4, f6⟩ := f5
  exact ⟨v, H5, I5.turned (t' := s5.toks) (fun b o hb e => (sb.2 b hb).trans e) f0 f1 f3 f4 f6, rv, q5⟩
theorem ps_setLC {i : Nat} {x : Str} {px : Pos} {spos : Pos} (hN : X.N.Nodup) (hi' : X.N[i]? = some x) (hx : Loc X.env.scope x) (hc : X.calm = true) (ok : CapOk X N' js scope) (hi : PI X tg iter wi)
    (hg : ∀ cl C s₀ H₀ ex, PG (lcx X N' scope cl C s₀ H₀ ex) tg g) (ht : ∀ cl C s₀ H₀ ex, PIfs (lcx X N' scope cl C s₀ H₀ ex) ifs tc) (he : ∀ cl C s₀ H₀ ex, PE (lcx X N' scope cl C s₀ H₀ ex) elt te)
    (hsw : swapsWith (.ListComp elt [⟨tg, iter, ifs, 0⟩] scope pos) (some (.Name x px)) spos.line X.env = pure true := by rfl)
    (hs : ∀ x, foldedSetIterable iter X.env x = pure x := by intro _; rfl) (hf : X.fn x = true ∨ X.env.scope.names.lookup x = some .local := by first | exact .inl rfl | exact .inr rfl | assumption) :
    PS X (.Assign [.Name x px] (.ListComp elt [⟨tg, iter, ifs, 0⟩] scope pos) spos) (tAsg (tLC wi js g tc te) (gName i)) := by
  intro pins s σ H D I h
  obtain ⟨cl, c1, c2, c3⟩ := clos_of (scope := scope) I.ok.has ok.free
  rw [exec_Assign_Name_used _ _ _ _ hsw]
  refine wpAny_bind (wpAny_standAt (wpAny_bind ?_))
  show wpAny _ X.A (do let _ ← comprehension (.ListComp elt [⟨tg, iter, ifs, 0⟩] scope pos) scope X.env _ (newList []) false (eval iter X.env) (some (assign (.Name x px) X.env))) _ _ s
  refine wpAny_bind (wpAny_mono (wpAny_comprehension_free (use := some (assign (.Name x px) X.env)) (Q := fun _ s' => SP X pins D .next s') rfl hs c1 ok.kind ok.names
    (thn (hi pins s σ H _ I h) fun v s1 h1 => thn h1 fun itv s2 h2 => ?_)) (fun _ s' hq => wpAny_pure (wpAny_pure hq)) fun _ _ e => e)
  obtain ⟨it, fp, tn, J, H2, e, I2, T, st2, f2, hw⟩ := h2
  subst e
  refine wpAny_mono (lc_block (Q := fun x H1 => gName i x σ H1 D.nx) (iter := iter) (pos := pos) hc ok c2 c3 hg ht he I2 T st2 f2 hw) (fun acc s3 h3 => wpAny_mono h3 (fun cenv s4 h4 => ?_) fun _ _ z => z) fun _ _ z => z
  refine codeAny_mono h4 fun r s5 h5 => ?_
  obtain ⟨rfl, ⟨m, hm⟩, v, H5, rv, I5, f5, q5⟩ := h5
  obtain ⟨f0, f1, f2', f3, f4, f6⟩ := f5
  show wpAny _ X.A (assign (.Name x px) X.env acc) _ _ _
  refine wpAny_assign_Name (store_ok2 I5 hN hi' hx rv (fun s6 I6 ch => ?_) hf)
  obtain ⟨a, sb, ha⟩ := ch
  have na : cenv.locals ≠ a := by
    rcases ha with z | z
    · rw [z]; exact f1
    · exact fun y => f4 x a z y.symm
  refine ⟨m, hm.sameBut sb na, fun h' sb' => ⟨_, H5, I6.turned (t' := s6.toks) (fun b o hb e => (sb'.2 b hb).trans e) f0 f1 f3 f4 f6, q5⟩⟩
end
end L2
set_option Elab.async false
set_option linter.all false
set_option maxRecDepth 100000
set_option exponentiation.threshold 2000
namespace L2
open PySem PySem.Spec PyProof.Rows
def CPowB (i j : Int) : Prop := 0 ≤ j ∧ j ≤ 1000 ∧ i.natAbs < 2 ^ 1000
def CDivW (i j : Int) : Prop := 0 < j ∧ j < 2 ^ 1000
section
variable {X : Cx}
theorem op_powB : OpR X (binaryOp .Pow) (rI CPowB fun i j => .int (i ^ j.toNat)) := opI fun i j _ _ _ _ _ hc q => by
  obtain ⟨h0, h1, h2⟩ := hc
  refine pow_int h0 ?_ q
  have hb : Builtin.Int.intBits i ≤ 1000 := intBits_le h2
  have e1 : ((Builtin.Int.intBits i : Nat) : Int) * j ≤ 1000 * 1000 := by
    have a1 : ((Builtin.Int.intBits i : Nat) : Int) * j ≤ 1000 * j := Int.mul_le_mul_of_nonneg_right (by omega) h0
    have a2 : 1000 * j ≤ 1000 * 1000 := Int.mul_le_mul_of_nonneg_left h1 (by decide)
    exact Int.le_trans a1 a2
  exact Int.le_trans e1 (by decide)
theorem op_fdivW : OpR X (binaryOp .FloorDiv) (rI CDivW fun i j => .int (i / j)) := opI fun i j _ _ _ _ _ hc q => by
  obtain ⟨h0, h1⟩ := hc
  refine floordiv_int (by omega) ?_ (.inl (PyProof.noPylong_of_log2 ?_))
  · rw [Int.fdiv_eq_ediv_of_nonneg _ (by omega)]
    exact q
  · have h2 : j.natAbs < 2 ^ 1000 := by
      have e : ((j.natAbs : Nat) : Int) = j := by omega
      have h3 : ((j.natAbs : Nat) : Int) < ((2 ^ 1000 : Nat) : Int) := by
        rw [e, Int.natCast_pow]
        exact h1
      exact Int.ofNat_lt.mp h3
    have h4 : j.natAbs ≠ 0 := by omega
    have h5 := (Nat.log2_lt h4).mpr h2
    omega
end
inductive PD where
  | non | bl (b : Bool) | int (i : Int) | str (x : Str) | lst (ds : List PD) | tup (ds : List PD)
mutual
def Rep (K : PySem.W.Frag) (H : Hp) : PD → V → Prop
  | .non, v => v = .non
  | .bl b, v => v = .bl b
  | .int i, v => v = .int i
  | .str x, v => v = .str x
  | .lst ds, v => ∃ a xs, v = .ref a ∧ SqL K H a xs ∧ Reps K H ds xs
  | .tup ds, v => ∃ a xs, v = .ref a ∧ SqT K H a xs ∧ Reps K H ds xs
def Reps (K : PySem.W.Frag) (H : Hp) : List PD → List V → Prop
  | [], xs => xs = []
  | d :: ds, xs => ∃ x r, xs = x :: r ∧ Rep K H d x ∧ Reps K H ds r
end
mutual
def pyEq : PD → PD → Bool
  | .non, .non => true
  | .bl a, .bl b => a == b
  | .bl a, .int b => (if a then 1 else 0) == b
  | .int a, .bl b => a == (if b then 1 else 0)
  | .int a, .int b => a == b
  | .str a, .str b => a == b
  | .lst xs, .lst ys => pyEqs xs ys
  | .tup xs, .tup ys => pyEqs xs ys
  | _, _ => false
def pyEqs : List PD → List PD → Bool
  | [], [] => true
  | x :: xs, y :: ys => pyEq x y && pyEqs xs ys
  | _, _ => false
end
mutual
def depthD : PD → Nat
  | .lst ds => depthDs ds + 1
  | .tup ds => depthDs ds + 1
  | _ => 0
def depthDs : List PD → Nat
  | [] => 0
  | d :: ds => max (depthD d) (depthDs ds)
end
mutual
theorem pyEq_refl : ∀ d : PD, pyEq d d = true
  | .non => rfl
  | .bl b => by simp [pyEq]
  | .int i => by simp [pyEq]
  | .str x => by simp [pyEq]
  | .lst ds => by rw [pyEq]; exact pyEqs_refl ds
  | .tup ds => by rw [pyEq]; exact pyEqs_refl ds
theorem pyEqs_refl : ∀ ds : List PD, pyEqs ds ds = true
  | [] => by rw [pyEqs]
  | d :: ds => by rw [pyEqs, pyEq_refl d, pyEqs_refl ds]; rfl
end
theorem Reps.length {K : PySem.W.Frag} {H : Hp} : ∀ {ds : List PD} {xs : List V}, Reps K H ds xs → xs.length = ds.length
  | [], xs, h => by rw [Reps] at h; rw [h]; rfl
  | d :: ds, xs, h => by
    rw [Reps] at h
    obtain ⟨x, r, rfl, _, h⟩ := h
    rw [List.length_cons, List.length_cons, Reps.length h]
theorem pyEqs_len : ∀ {xs ys : List PD}, xs.length ≠ ys.length → pyEqs xs ys = false
  | [], [], h => absurd rfl h
  | [], _ :: _, _ => by rw [pyEqs]; all_goals simp
  | _ :: _, [], _ => by rw [pyEqs]; all_goals simp
  | x :: xs, y :: ys, h => by
    rw [pyEqs, pyEqs_len (xs := xs) (ys := ys) (by simpa using h)]
    simp
def eqJ (xs ys : List PD) (j : Nat) : Bool := match xs[j]?, ys[j]? with
  | some a, some b => pyEq a b
  | _, _ => false
theorem pyEqs_range : ∀ (xs ys : List PD), xs.length = ys.length → (List.range xs.length).all (eqJ xs ys) = pyEqs xs ys
  | [], [], _ => by rw [pyEqs]; rfl
  | x :: xs, y :: ys, h => by
    rw [pyEqs, List.length_cons, List.range_succ_eq_map, List.all_cons, List.all_map]
    rw [← pyEqs_range xs ys (by simpa using h)]
    rfl
theorem SqT.notL {K : PySem.W.Frag} {X : Cx} {pins : List (Addr × Obj)} {σ : St} {H : Hp} {s : Shared} {a : Addr} {xs ys : List V} (I : Inv X pins σ H s) (h : SqT X.K H a xs) (h' : SqL X.K H a ys) : False := by
  obtain ⟨its, _, p, _⟩ := I.tuple h
  obtain ⟨its', _, p', _⟩ := I.list h'
  exact SeqAt.ne_of_list_tuple p'.isList (show s.heap.IsTuple a its.toArray from p) rfl
section
variable {X : Cx} {pins : List (Addr × Obj)} {σ : St} {H : Hp} {s : Shared}
mutual
theorem rep_inj (I : Inv X pins σ H s) : ∀ (d e : PD) (v : V), Rep X.K H d v → Rep X.K H e v → d = e
  | .non, e, v, h, h' => by
    rw [Rep] at h; subst h
    cases e <;> rw [Rep] at h' <;> first | rfl | (obtain ⟨_, _, z, _⟩ := h'; cases z; done) | (cases h'; done)
  | .bl b, e, v, h, h' => by
    rw [Rep] at h; subst h
    cases e <;> rw [Rep] at h' <;> first | (obtain ⟨_, _, z, _⟩ := h'; cases z; done) | (cases h'; done) | (cases h'; rfl)
  | .int i, e, v, h, h' => by
    rw [Rep] at h; subst h
    cases e <;> rw [Rep] at h' <;> first | (obtain ⟨_, _, z, _⟩ := h'; cases z; done) | (cases h'; done) | (cases h'; rfl)
  | .str x, e, v, h, h' => by
    rw [Rep] at h; subst h
    cases e <;> rw [Rep] at h' <;> first | (obtain ⟨_, _, z, _⟩ := h'; cases z; done) | (cases h'; done) | (cases h'; rfl)
  | .lst ds, e, v, h, h' => by
    rw [Rep] at h
    obtain ⟨a, xs, rfl, q, r⟩ := h
    cases e with
    | lst es =>
      rw [Rep] at h'
      obtain ⟨a', ys, z, q', r'⟩ := h'
      cases z
      have := I.list_inj q q'
      subst this
      rw [reps_inj I ds es xs r r']
    | tup es =>
      rw [Rep] at h'
      obtain ⟨a', ys, z, q', r'⟩ := h'
      cases z
      exact (SqT.notL (K := X.K) I q' q).elim
    | _ => rw [Rep] at h'; cases h'
  | .tup ds, e, v, h, h' => by
    rw [Rep] at h
    obtain ⟨a, xs, rfl, q, r⟩ := h
    cases e with
    | tup es =>
      rw [Rep] at h'
      obtain ⟨a', ys, z, q', r'⟩ := h'
      cases z
      have := I.tuple_inj q q'
      subst this
      rw [reps_inj I ds es xs r r']
    | lst es =>
      rw [Rep] at h'
      obtain ⟨a', ys, z, q', r'⟩ := h'
      cases z
      exact (SqT.notL (K := X.K) I q q').elim
    | _ => rw [Rep] at h'; cases h'
theorem reps_inj (I : Inv X pins σ H s) : ∀ (ds es : List PD) (vs : List V), Reps X.K H ds vs → Reps X.K H es vs → ds = es
  | [], es, vs, h, h' => by
    rw [Reps] at h; subst h
    cases es with
    | nil => rfl
    | cons e es => rw [Reps] at h'; obtain ⟨_, _, z, _⟩ := h'; cases z
  | d :: ds, es, vs, h, h' => by
    rw [Reps] at h
    obtain ⟨x, r, rfl, h1, h2⟩ := h
    cases es with
    | nil => rw [Reps] at h'; cases h'
    | cons e es =>
      rw [Reps] at h'
      obtain ⟨x', r', z, h1', h2'⟩ := h'
      cases z
      rw [rep_inj I d e x h1 h1', reps_inj I ds es r h2 h2']
end
mutual
theorem eqAt_rep (I : Inv X pins σ H s) : ∀ (A : Around) (d e : PD) (v w : V) (u y : Value), Rep X.K H d v → Rep X.K H e w → RelV v u → RelV w y → A.units + depthD d < cLine → SeqAt.EqAt A s u y (pyEq d e)
  | A, .non, e, v, w, u, y, h, h', r, r', z => by
    rw [Rep] at h; subst h; cases r
    cases e with
    | non => rw [Rep] at h'; subst h'; cases r'; rw [pyEq]; exact SeqAt.EqAt.same _
    | bl b => rw [Rep] at h'; subst h'; cases r'; exact SeqAt.EqAt.none_bool b
    | int b => rw [Rep] at h'; subst h'; obtain ⟨t, rfl⟩ := r'; exact SeqAt.EqAt.none_int b t
    | str b => rw [Rep] at h'; subst h'; obtain ⟨t, rfl⟩ := r'; exact SeqAt.EqAt.none_str b t
    | lst es => rw [Rep] at h'; obtain ⟨a, xs, rfl, q, _⟩ := h'; cases r'; obtain ⟨its, _, p, _⟩ := I.list q; exact SeqAt.EqAt.none_list p.isList (by omega)
    | tup es => rw [Rep] at h'; obtain ⟨a, xs, rfl, q, _⟩ := h'; cases r'; obtain ⟨its, _, p, _⟩ := I.tuple q; exact SeqAt.EqAt.none_tuple p (by omega)
  | A, .bl c, e, v, w, u, y, h, h', r, r', z => by
    rw [Rep] at h; subst h; cases r
    cases e with
    | non => rw [Rep] at h'; subst h'; cases r'; exact SeqAt.EqAt.bool_none c
    | bl b => rw [Rep] at h'; subst h'; cases r'; exact SeqAt.EqAt.bool_bool c b
    | int b => rw [Rep] at h'; subst h'; obtain ⟨t, rfl⟩ := r'; exact SeqAt.EqAt.bool_int c b t
    | str b => rw [Rep] at h'; subst h'; obtain ⟨t, rfl⟩ := r'; exact SeqAt.EqAt.bool_str c b t
    | lst es => rw [Rep] at h'; obtain ⟨a, xs, rfl, q, _⟩ := h'; cases r'; obtain ⟨its, _, p, _⟩ := I.list q; exact SeqAt.EqAt.bool_list c p.isList (by omega)
    | tup es => rw [Rep] at h'; obtain ⟨a, xs, rfl, q, _⟩ := h'; cases r'; obtain ⟨its, _, p, _⟩ := I.tuple q; exact SeqAt.EqAt.bool_tuple c p (by omega)
  | A, .int c, e, v, w, u, y, h, h', r, r', z => by
    rw [Rep] at h; subst h; obtain ⟨tc, rfl⟩ := r
    cases e with
    | non => rw [Rep] at h'; subst h'; cases r'; exact SeqAt.EqAt.int_none c tc
    | bl b => rw [Rep] at h'; subst h'; cases r'; exact SeqAt.EqAt.int_bool c tc b
    | int b => rw [Rep] at h'; subst h'; obtain ⟨t, rfl⟩ := r'; exact SeqAt.EqAt.int_int c tc b t
    | str b => rw [Rep] at h'; subst h'; obtain ⟨t, rfl⟩ := r'; exact SeqAt.EqAt.int_str c tc b t
    | lst es => rw [Rep] at h'; obtain ⟨a, xs, rfl, q, _⟩ := h'; cases r'; obtain ⟨its, _, p, _⟩ := I.list q; exact SeqAt.EqAt.int_list c tc p.isList (by omega)
    | tup es => rw [Rep] at h'; obtain ⟨a, xs, rfl, q, _⟩ := h'; cases r'; obtain ⟨its, _, p, _⟩ := I.tuple q; exact SeqAt.EqAt.int_tuple c tc p (by omega)
  | A, .str c, e, v, w, u, y, h, h', r, r', z => by
    rw [Rep] at h; subst h; obtain ⟨tc, rfl⟩ := r
    cases e with
    | non => rw [Rep] at h'; subst h'; cases r'; exact SeqAt.EqAt.str_none c tc
    | bl b => rw [Rep] at h'; subst h'; cases r'; exact SeqAt.EqAt.str_bool c tc b
    | int b => rw [Rep] at h'; subst h'; obtain ⟨t, rfl⟩ := r'; exact SeqAt.EqAt.str_int c tc b t
    | str b => rw [Rep] at h'; subst h'; obtain ⟨t, rfl⟩ := r'; exact SeqAt.EqAt.str_str c tc b t
    | lst es => rw [Rep] at h'; obtain ⟨a, xs, rfl, q, _⟩ := h'; cases r'; obtain ⟨its, _, p, _⟩ := I.list q; exact SeqAt.EqAt.str_list c tc p.isList (by omega)
    | tup es => rw [Rep] at h'; obtain ⟨a, xs, rfl, q, _⟩ := h'; cases r'; obtain ⟨its, _, p, _⟩ := I.tuple q; exact SeqAt.EqAt.str_tuple c tc p (by omega)
  | A, .lst ds, e, v, w, u, y, h, h', r, r', z => by
    have h0 := h
    rw [Rep] at h; obtain ⟨a, xs, rfl, q, qs⟩ := h; cases r
    obtain ⟨its, rv, p, _⟩ := I.list q
    cases e with
    | non => rw [Rep] at h'; subst h'; cases r'; exact SeqAt.EqAt.list_none p.isList (by omega)
    | bl b => rw [Rep] at h'; subst h'; cases r'; exact SeqAt.EqAt.list_bool b p.isList (by omega)
    | int b => rw [Rep] at h'; subst h'; obtain ⟨t, rfl⟩ := r'; exact SeqAt.EqAt.list_int b t p.isList (by omega)
    | str b => rw [Rep] at h'; subst h'; obtain ⟨t, rfl⟩ := r'; exact SeqAt.EqAt.list_str b t p.isList (by omega)
    | tup es => rw [Rep] at h'; obtain ⟨b, ys, rfl, q', _⟩ := h'; cases r'; obtain ⟨its', _, p', _⟩ := I.tuple q'; exact SeqAt.EqAt.list_tuple p.isList p' (by omega)
    | lst es =>
      have h0' := h'
      rw [Rep] at h'; obtain ⟨b, ys, rfl, q', qs'⟩ := h'; cases r'
      obtain ⟨its', rv', p', _⟩ := I.list q'
      by_cases hab : a = b
      · subst hab
        rw [rep_inj I _ _ _ h0 h0', pyEq_refl]
        exact SeqAt.EqAt.same _
      · refine SeqAt.EqAt.of_refs hab ?_
        rw [pyEq]
        rw [depthD] at z
        have l1 := qs.length
        have l2 := qs'.length
        have l3 := rv.length
        have l4 := rv'.length
        by_cases hl : ds.length = es.length
        · rw [← pyEqs_range ds es hl]
          have := SeqAt.RcAt.lists (e := eqJ ds es) p.isList p'.isList (by simp; omega) (by omega) (fun j h1 h2 => ?_) (A := A)
          · simp only [List.size_toArray] at this
            rw [show ds.length = its.length by omega]
            exact this
          · have := eqAts_rep I A.in1 ds es xs ys its its' qs qs' rv rv' (by rw [Around.in1_units]; omega) j (by simpa using h1) (by simpa using h2)
            simpa using this
        · rw [pyEqs_len hl]
          exact SeqAt.RcAt.lists_lengths p.isList p'.isList (by simp; omega) (by omega)
  | A, .tup ds, e, v, w, u, y, h, h', r, r', z => by
    have h0 := h
    rw [Rep] at h; obtain ⟨a, xs, rfl, q, qs⟩ := h; cases r
    obtain ⟨its, rv, p, _⟩ := I.tuple q
    cases e with
    | non => rw [Rep] at h'; subst h'; cases r'; exact SeqAt.EqAt.tuple_none p (by omega)
    | bl b => rw [Rep] at h'; subst h'; cases r'; exact SeqAt.EqAt.tuple_bool b p (by omega)
    | int b => rw [Rep] at h'; subst h'; obtain ⟨t, rfl⟩ := r'; exact SeqAt.EqAt.tuple_int b t p (by omega)
    | str b => rw [Rep] at h'; subst h'; obtain ⟨t, rfl⟩ := r'; exact SeqAt.EqAt.tuple_str b t p (by omega)
    | lst es => rw [Rep] at h'; obtain ⟨b, ys, rfl, q', _⟩ := h'; cases r'; obtain ⟨its', _, p', _⟩ := I.list q'; exact SeqAt.EqAt.tuple_list p p'.isList (by omega)
    | tup es =>
      have h0' := h'
      rw [Rep] at h'; obtain ⟨b, ys, rfl, q', qs'⟩ := h'; cases r'
      obtain ⟨its', rv', p', _⟩ := I.tuple q'
      by_cases hab : a = b
      · subst hab
        rw [rep_inj I _ _ _ h0 h0', pyEq_refl]
        exact SeqAt.EqAt.same _
      · refine SeqAt.EqAt.of_refs hab ?_
        rw [pyEq]
        rw [depthD] at z
        have l1 := qs.length
        have l2 := qs'.length
        have l3 := rv.length
        have l4 := rv'.length
        have := SeqAt.RcAt.tuples (e := eqJ ds es) p p' (by omega) (fun j h1 h2 => ?_) (A := A)
        · simp only [List.size_toArray] at this
          by_cases hl : ds.length = es.length
          · rw [← pyEqs_range ds es hl]
            rw [show min its.length its'.length = ds.length by omega, show (its.length == its'.length) = true by simp; omega, Bool.and_true] at this
            exact this
          · rw [pyEqs_len hl]
            rw [show (its.length == its'.length) = false by simp; omega, Bool.and_false] at this
            exact this
        · have := eqAts_rep I A.in1 ds es xs ys its its' qs qs' rv rv' (by rw [Around.in1_units]; omega) j (by simpa using h1) (by simpa using h2)
          simpa using this
theorem eqAts_rep (I : Inv X pins σ H s) : ∀ (A : Around) (ds es : List PD) (vs ws : List V) (us ys : List Value), Reps X.K H ds vs → Reps X.K H es ws → Vals vs us → Vals ws ys → A.units + depthDs ds < cLine →
    ∀ (j : Nat) (h1 : j < us.length) (h2 : j < ys.length), SeqAt.EqAt A s us[j] ys[j] (eqJ ds es j)
  | A, [], es, vs, ws, us, ys, h, h', r, r', z => by
    rw [Reps] at h; subst h; cases r
    intro j h1; exact absurd h1 (Nat.not_lt_zero _)
  | A, d :: ds, es, vs, ws, us, ys, h, h', r, r', z => by
    rw [Reps] at h
    obtain ⟨x, vr, rfl, g1, g2⟩ := h
    cases es with
    | nil =>
      rw [Reps] at h'; subst h'; cases r'
      intro j h1 h2; exact absurd h2 (Nat.not_lt_zero _)
    | cons e es =>
      rw [Reps] at h'
      obtain ⟨x', vr', rfl, g1', g2'⟩ := h'
      cases r with
      | cons ra rb =>
        cases r' with
        | cons ra' rb' =>
          rw [depthDs] at z
          intro j h1 h2
          cases j with
          | zero => exact eqAt_rep I A d e x x' _ _ g1 g1' ra ra' (by omega)
          | succ j => exact eqAts_rep I A ds es vr vr' _ _ g2 g2' rb rb' (by omega) j (by simpa using h1) (by simpa using h2)
end
end
end L2
set_option Elab.async false
set_option linter.all false
set_option maxRecDepth 100000
set_option exponentiation.threshold 2000
namespace L2
open PySem PySem.Spec PyProof.Rows
section
variable {prog : Program} {w : World} {A : Around} {R : Result → Shared → Prop} {J : Addr} {fo wo : List Addr} {len : Nat} {At : Nat → Value → Prop} {Sx : Nat → Heap → Prop}
end
section
variable {prog : Program} {w : World} {A : Around} {R : Result → Shared → Prop} {J : Addr} {fo wo : List Addr} {len : Nat} {At : Nat → Value → Prop} {Sx : Nat → Heap → Prop}
end
section
variable {X : Cx}
end
end L2
set_option Elab.async false
set_option linter.all false
set_option maxRecDepth 100000
set_option exponentiation.threshold 2000
namespace L2
open PySem PySem.Spec PyProof.Rows
section
variable {X : Cx} {pins : List (Addr × Obj)} {σ : St} {H : Hp} {s : Shared}
theorem rcAt_rep (I : Inv X pins σ H s) (A : Around) (d e : PD) (v w : V) (u y : Value) (h : Rep X.K H d v) (h' : Rep X.K H e w) (r : RelV v u) (r' : RelV w y) (z : A.units + depthD d < cLine) : SeqAt.RcAt A s u y (pyEq d e) := by
  cases d with
  | non =>
    rw [Rep] at h; subst h; cases r
    cases e with
    | non =>
      rw [Rep] at h'
      subst h'; cases r'
      rw [pyEq]; exact SeqAt.RcAt.none_none
    | bl b =>
      rw [Rep] at h'
      subst h'; cases r'
      exact SeqAt.RcAt.none_bool b
    | int b =>
      rw [Rep] at h'
      subst h'; obtain ⟨t, rfl⟩ := r'
      exact SeqAt.RcAt.none_int b t
    | str b =>
      rw [Rep] at h'
      subst h'; obtain ⟨t, rfl⟩ := r'
      exact SeqAt.RcAt.none_str b t
    | lst es =>
      rw [Rep] at h'
      obtain ⟨b, ys, rfl, q', qs'⟩ := h'; cases r'
      obtain ⟨its', rv', p', _⟩ := I.list q'
      exact SeqAt.RcAt.none_list p'.isList (by omega)
    | tup es =>
      rw [Rep] at h'
      obtain ⟨b, ys, rfl, q', qs'⟩ := h'; cases r'
      obtain ⟨its', rv', p', _⟩ := I.tuple q'
      exact SeqAt.RcAt.none_tuple p' (by omega)
  | bl c =>
    rw [Rep] at h; subst h; cases r
    cases e with
    | non =>
      rw [Rep] at h'
      subst h'; cases r'
      exact SeqAt.RcAt.bool_none c
    | bl b =>
      rw [Rep] at h'
      subst h'; cases r'
      exact SeqAt.RcAt.bool_bool c b
    | int b =>
      rw [Rep] at h'
      subst h'; obtain ⟨t, rfl⟩ := r'
      exact SeqAt.RcAt.bool_int c b t
    | str b =>
      rw [Rep] at h'
      subst h'; obtain ⟨t, rfl⟩ := r'
      exact SeqAt.RcAt.bool_str c b t
    | lst es =>
      rw [Rep] at h'
      obtain ⟨b, ys, rfl, q', qs'⟩ := h'; cases r'
      obtain ⟨its', rv', p', _⟩ := I.list q'
      exact SeqAt.RcAt.bool_list c p'.isList (by omega)
    | tup es =>
      rw [Rep] at h'
      obtain ⟨b, ys, rfl, q', qs'⟩ := h'; cases r'
      obtain ⟨its', rv', p', _⟩ := I.tuple q'
      exact SeqAt.RcAt.bool_tuple c p' (by omega)
  | int c =>
    rw [Rep] at h; subst h; obtain ⟨tc, rfl⟩ := r
    cases e with
    | non =>
      rw [Rep] at h'
      subst h'; cases r'
      exact SeqAt.RcAt.int_none c tc
    | bl b =>
      rw [Rep] at h'
      subst h'; cases r'
      exact SeqAt.RcAt.int_bool c tc b
    | int b =>
      rw [Rep] at h'
      subst h'; obtain ⟨t, rfl⟩ := r'
      exact SeqAt.RcAt.int_int c tc b t
    | str b =>
      rw [Rep] at h'
      subst h'; obtain ⟨t, rfl⟩ := r'
      exact SeqAt.RcAt.int_str c tc b t
    | lst es =>
      rw [Rep] at h'
      obtain ⟨b, ys, rfl, q', qs'⟩ := h'; cases r'
      obtain ⟨its', rv', p', _⟩ := I.list q'
      exact SeqAt.RcAt.int_list c tc p'.isList (by omega)
    | tup es =>
      rw [Rep] at h'
      obtain ⟨b, ys, rfl, q', qs'⟩ := h'; cases r'
      obtain ⟨its', rv', p', _⟩ := I.tuple q'
      exact SeqAt.RcAt.int_tuple c tc p' (by omega)
  | str c =>
    rw [Rep] at h; subst h; obtain ⟨tc, rfl⟩ := r
    cases e with
    | non =>
      rw [Rep] at h'
      subst h'; cases r'
      exact SeqAt.RcAt.str_none c tc
    | bl b =>
      rw [Rep] at h'
      subst h'; cases r'
      exact SeqAt.RcAt.str_bool c tc b
    | int b =>
      rw [Rep] at h'
      subst h'; obtain ⟨t, rfl⟩ := r'
      exact SeqAt.RcAt.str_int c tc b t
    | str b =>
      rw [Rep] at h'
      subst h'; obtain ⟨t, rfl⟩ := r'
      exact SeqAt.RcAt.str_str c tc b t
    | lst es =>
      rw [Rep] at h'
      obtain ⟨b, ys, rfl, q', qs'⟩ := h'; cases r'
      obtain ⟨its', rv', p', _⟩ := I.list q'
      exact SeqAt.RcAt.str_list c tc p'.isList (by omega)
    | tup es =>
      rw [Rep] at h'
      obtain ⟨b, ys, rfl, q', qs'⟩ := h'; cases r'
      obtain ⟨its', rv', p', _⟩ := I.tuple q'
      exact SeqAt.RcAt.str_tuple c tc p' (by omega)
  | lst ds =>
    rw [Rep] at h; obtain ⟨a, xs, rfl, q, qs⟩ := h; cases r
    obtain ⟨its, rv, p, _⟩ := I.list q
    cases e with
    | non =>
      rw [Rep] at h'
      subst h'; cases r'
      exact SeqAt.RcAt.list_none p.isList (by omega)
    | bl b =>
      rw [Rep] at h'
      subst h'; cases r'
      exact SeqAt.RcAt.list_bool b p.isList (by omega)
    | int b =>
      rw [Rep] at h'
      subst h'; obtain ⟨t, rfl⟩ := r'
      exact SeqAt.RcAt.list_int b t p.isList (by omega)
    | str b =>
      rw [Rep] at h'
      subst h'; obtain ⟨t, rfl⟩ := r'
      exact SeqAt.RcAt.list_str b t p.isList (by omega)
    | lst es =>
      rw [Rep] at h'
      obtain ⟨b, ys, rfl, q', qs'⟩ := h'; cases r'
      obtain ⟨its', rv', p', _⟩ := I.list q'
      rw [pyEq]
      rw [depthD] at z
      have l1 := qs.length
      have l2 := qs'.length
      have l3 := rv.length
      have l4 := rv'.length
      by_cases hl : ds.length = es.length
      · rw [← pyEqs_range ds es hl]
        have := SeqAt.RcAt.lists (e := eqJ ds es) p.isList p'.isList (by simp; omega) (by omega) (fun j h1 h2 => ?_) (A := A)
        · simp only [List.size_toArray] at this
          rw [show ds.length = its.length by omega]
          exact this
        · have := eqAts_rep I A.in1 ds es xs ys its its' qs qs' rv rv' (by rw [Around.in1_units]; omega) j (by simpa using h1) (by simpa using h2)
          simpa using this
      · rw [pyEqs_len hl]
        exact SeqAt.RcAt.lists_lengths p.isList p'.isList (by simp; omega) (by omega)
    | tup es =>
      rw [Rep] at h'
      obtain ⟨b, ys, rfl, q', qs'⟩ := h'; cases r'
      obtain ⟨its', rv', p', _⟩ := I.tuple q'
      exact SeqAt.RcAt.list_tuple p.isList p' (by omega)
  | tup ds =>
    rw [Rep] at h; obtain ⟨a, xs, rfl, q, qs⟩ := h; cases r
    obtain ⟨its, rv, p, _⟩ := I.tuple q
    cases e with
    | non =>
      rw [Rep] at h'
      subst h'; cases r'
      exact SeqAt.RcAt.tuple_none p (by omega)
    | bl b =>
      rw [Rep] at h'
      subst h'; cases r'
      exact SeqAt.RcAt.tuple_bool b p (by omega)
    | int b =>
      rw [Rep] at h'
      subst h'; obtain ⟨t, rfl⟩ := r'
      exact SeqAt.RcAt.tuple_int b t p (by omega)
    | str b =>
      rw [Rep] at h'
      subst h'; obtain ⟨t, rfl⟩ := r'
      exact SeqAt.RcAt.tuple_str b t p (by omega)
    | lst es =>
      rw [Rep] at h'
      obtain ⟨b, ys, rfl, q', qs'⟩ := h'; cases r'
      obtain ⟨its', rv', p', _⟩ := I.list q'
      exact SeqAt.RcAt.tuple_list p p'.isList (by omega)
    | tup es =>
      rw [Rep] at h'
      obtain ⟨b, ys, rfl, q', qs'⟩ := h'; cases r'
      obtain ⟨its', rv', p', _⟩ := I.tuple q'
      rw [pyEq]
      rw [depthD] at z
      have l1 := qs.length
      have l2 := qs'.length
      have l3 := rv.length
      have l4 := rv'.length
      have := SeqAt.RcAt.tuples (e := eqJ ds es) p p' (by omega) (fun j h1 h2 => ?_) (A := A)
      · simp only [List.size_toArray] at this
        by_cases hl : ds.length = es.length
        · rw [← pyEqs_range ds es hl]
          rw [show min its.length its'.length = ds.length by omega, show (its.length == its'.length) = true by simp; omega, Bool.and_true] at this
          exact this
        · rw [pyEqs_len hl]
          rw [show (its.length == its'.length) = false by simp; omega, Bool.and_false] at this
          exact this
      · have := eqAts_rep I A.in1 ds es xs ys its its' qs qs' rv rv' (by rw [Around.in1_units]; omega) j (by simpa using h1) (by simpa using h2)
        simpa using this
theorem rcNeAt_rep (I : Inv X pins σ H s) (A : Around) (d e : PD) (v w : V) (u y : Value) (h : Rep X.K H d v) (h' : Rep X.K H e w) (r : RelV v u) (r' : RelV w y) (z : A.units + depthD d < cLine) : SeqAt.RcNeAt A s u y (!pyEq d e) := by
  cases d with
  | non =>
    rw [Rep] at h; subst h; cases r
    cases e with
    | non =>
      rw [Rep] at h'
      subst h'; cases r'
      rw [pyEq]; exact SeqAt.RcNeAt.none_none
    | bl b =>
      rw [Rep] at h'
      subst h'; cases r'
      exact SeqAt.RcNeAt.none_bool b
    | int b =>
      rw [Rep] at h'
      subst h'; obtain ⟨t, rfl⟩ := r'
      exact SeqAt.RcNeAt.none_int b t
    | str b =>
      rw [Rep] at h'
      subst h'; obtain ⟨t, rfl⟩ := r'
      exact SeqAt.RcNeAt.none_str b t
    | lst es =>
      rw [Rep] at h'
      obtain ⟨b, ys, rfl, q', qs'⟩ := h'; cases r'
      obtain ⟨its', rv', p', _⟩ := I.list q'
      exact SeqAt.RcNeAt.none_list p'.isList (by omega)
    | tup es =>
      rw [Rep] at h'
      obtain ⟨b, ys, rfl, q', qs'⟩ := h'; cases r'
      obtain ⟨its', rv', p', _⟩ := I.tuple q'
      exact SeqAt.RcNeAt.none_tuple p' (by omega)
  | bl c =>
    rw [Rep] at h; subst h; cases r
    cases e with
    | non =>
      rw [Rep] at h'
      subst h'; cases r'
      exact SeqAt.RcNeAt.bool_none c
    | bl b =>
      rw [Rep] at h'
      subst h'; cases r'
      exact SeqAt.RcNeAt.bool_bool c b
    | int b =>
      rw [Rep] at h'
      subst h'; obtain ⟨t, rfl⟩ := r'
      exact SeqAt.RcNeAt.bool_int c b t
    | str b =>
      rw [Rep] at h'
      subst h'; obtain ⟨t, rfl⟩ := r'
      exact SeqAt.RcNeAt.bool_str c b t
    | lst es =>
      rw [Rep] at h'
      obtain ⟨b, ys, rfl, q', qs'⟩ := h'; cases r'
      obtain ⟨its', rv', p', _⟩ := I.list q'
      exact SeqAt.RcNeAt.bool_list c p'.isList (by omega)
    | tup es =>
      rw [Rep] at h'
      obtain ⟨b, ys, rfl, q', qs'⟩ := h'; cases r'
      obtain ⟨its', rv', p', _⟩ := I.tuple q'
      exact SeqAt.RcNeAt.bool_tuple c p' (by omega)
  | int c =>
    rw [Rep] at h; subst h; obtain ⟨tc, rfl⟩ := r
    cases e with
    | non =>
      rw [Rep] at h'
      subst h'; cases r'
      exact SeqAt.RcNeAt.int_none c tc
    | bl b =>
      rw [Rep] at h'
      subst h'; cases r'
      exact SeqAt.RcNeAt.int_bool c tc b
    | int b =>
      rw [Rep] at h'
      subst h'; obtain ⟨t, rfl⟩ := r'
      exact SeqAt.RcNeAt.int_int c tc b t
    | str b =>
      rw [Rep] at h'
      subst h'; obtain ⟨t, rfl⟩ := r'
      exact SeqAt.RcNeAt.int_str c tc b t
    | lst es =>
      rw [Rep] at h'
      obtain ⟨b, ys, rfl, q', qs'⟩ := h'; cases r'
      obtain ⟨its', rv', p', _⟩ := I.list q'
      exact SeqAt.RcNeAt.int_list c tc p'.isList (by omega)
    | tup es =>
      rw [Rep] at h'
      obtain ⟨b, ys, rfl, q', qs'⟩ := h'; cases r'
      obtain ⟨its', rv', p', _⟩ := I.tuple q'
      exact SeqAt.RcNeAt.int_tuple c tc p' (by omega)
  | str c =>
    rw [Rep] at h; subst h; obtain ⟨tc, rfl⟩ := r
    cases e with
    | non =>
      rw [Rep] at h'
      subst h'; cases r'
      exact SeqAt.RcNeAt.str_none c tc
    | bl b =>
      rw [Rep] at h'
      subst h'; cases r'
      exact SeqAt.RcNeAt.str_bool c tc b
    | int b =>
      rw [Rep] at h'
      subst h'; obtain ⟨t, rfl⟩ := r'
      exact SeqAt.RcNeAt.str_int c tc b t
    | str b =>
      rw [Rep] at h'
      subst h'; obtain ⟨t, rfl⟩ := r'
      exact SeqAt.RcNeAt.str_str c tc b t
    | lst es =>
      rw [Rep] at h'
      obtain ⟨b, ys, rfl, q', qs'⟩ := h'; cases r'
      obtain ⟨its', rv', p', _⟩ := I.list q'
      exact SeqAt.RcNeAt.str_list c tc p'.isList (by omega)
    | tup es =>
      rw [Rep] at h'
      obtain ⟨b, ys, rfl, q', qs'⟩ := h'; cases r'
      obtain ⟨its', rv', p', _⟩ := I.tuple q'
      exact SeqAt.RcNeAt.str_tuple c tc p' (by omega)
  | lst ds =>
    rw [Rep] at h; obtain ⟨a, xs, rfl, q, qs⟩ := h; cases r
    obtain ⟨its, rv, p, _⟩ := I.list q
    cases e with
    | non =>
      rw [Rep] at h'
      subst h'; cases r'
      exact SeqAt.RcNeAt.list_none p.isList (by omega)
    | bl b =>
      rw [Rep] at h'
      subst h'; cases r'
      exact SeqAt.RcNeAt.list_bool b p.isList (by omega)
    | int b =>
      rw [Rep] at h'
      subst h'; obtain ⟨t, rfl⟩ := r'
      exact SeqAt.RcNeAt.list_int b t p.isList (by omega)
    | str b =>
      rw [Rep] at h'
      subst h'; obtain ⟨t, rfl⟩ := r'
      exact SeqAt.RcNeAt.list_str b t p.isList (by omega)
    | lst es =>
      rw [Rep] at h'
      obtain ⟨b, ys, rfl, q', qs'⟩ := h'; cases r'
      obtain ⟨its', rv', p', _⟩ := I.list q'
      rw [pyEq]
      rw [depthD] at z
      have l1 := qs.length
      have l2 := qs'.length
      have l3 := rv.length
      have l4 := rv'.length
      by_cases hl : ds.length = es.length
      · rw [← pyEqs_range ds es hl]
        have := SeqAt.RcNeAt.lists (e := eqJ ds es) p.isList p'.isList (by simp; omega) (by omega) (fun j h1 h2 => ?_) (A := A)
        · simp only [List.size_toArray] at this
          rw [show ds.length = its.length by omega]
          exact this
        · have := eqAts_rep I A.in1 ds es xs ys its its' qs qs' rv rv' (by rw [Around.in1_units]; omega) j (by simpa using h1) (by simpa using h2)
          simpa using this
      · rw [pyEqs_len hl]
        exact SeqAt.RcNeAt.lists_lengths p.isList p'.isList (by simp; omega) (by omega)
    | tup es =>
      rw [Rep] at h'
      obtain ⟨b, ys, rfl, q', qs'⟩ := h'; cases r'
      obtain ⟨its', rv', p', _⟩ := I.tuple q'
      exact SeqAt.RcNeAt.list_tuple p.isList p' (by omega)
  | tup ds =>
    rw [Rep] at h; obtain ⟨a, xs, rfl, q, qs⟩ := h; cases r
    obtain ⟨its, rv, p, _⟩ := I.tuple q
    cases e with
    | non =>
      rw [Rep] at h'
      subst h'; cases r'
      exact SeqAt.RcNeAt.tuple_none p (by omega)
    | bl b =>
      rw [Rep] at h'
      subst h'; cases r'
      exact SeqAt.RcNeAt.tuple_bool b p (by omega)
    | int b =>
      rw [Rep] at h'
      subst h'; obtain ⟨t, rfl⟩ := r'
      exact SeqAt.RcNeAt.tuple_int b t p (by omega)
    | str b =>
      rw [Rep] at h'
      subst h'; obtain ⟨t, rfl⟩ := r'
      exact SeqAt.RcNeAt.tuple_str b t p (by omega)
    | lst es =>
      rw [Rep] at h'
      obtain ⟨b, ys, rfl, q', qs'⟩ := h'; cases r'
      obtain ⟨its', rv', p', _⟩ := I.list q'
      exact SeqAt.RcNeAt.tuple_list p p'.isList (by omega)
    | tup es =>
      rw [Rep] at h'
      obtain ⟨b, ys, rfl, q', qs'⟩ := h'; cases r'
      obtain ⟨its', rv', p', _⟩ := I.tuple q'
      rw [pyEq]
      rw [depthD] at z
      have l1 := qs.length
      have l2 := qs'.length
      have l3 := rv.length
      have l4 := rv'.length
      have := SeqAt.RcNeAt.tuples (e := eqJ ds es) p p' (by omega) (fun j h1 h2 => ?_) (A := A)
      · simp only [List.size_toArray] at this
        by_cases hl : ds.length = es.length
        · rw [← pyEqs_range ds es hl]
          rw [show min its.length its'.length = ds.length by omega, show (its.length == its'.length) = true by simp; omega, Bool.and_true] at this
          exact this
        · rw [pyEqs_len hl]
          rw [show (its.length == its'.length) = false by simp; omega, Bool.and_false] at this
          exact this
      · have := eqAts_rep I A.in1 ds es xs ys its its' qs qs' rv rv' (by rw [Around.in1_units]; omega) j (by simpa using h1) (by simpa using h2)
        simpa using this
end
def RoomD (X : Cx) : Prop := X.A.units + 60 < cLine
section
variable {X : Cx}
def rEqD (K : PySem.W.Frag) : R2 := fun x y H Q => ∃ d e, Rep K H d x ∧ Rep K H e y ∧ depthD d < 60 ∧ Q (.bl (pyEq d e)) H
def rNeD (K : PySem.W.Frag) : R2 := fun x y H Q => ∃ d e, Rep K H d x ∧ Rep K H e y ∧ depthD d < 60 ∧ Q (.bl (!pyEq d e)) H
theorem op_eqD (hr : RoomD X) : OpR X (compareOp .Eq) (rEqD X.K) := by
  intro pins s σ H x y v u Q I rx ry h
  obtain ⟨d, e, h1, h2, h3, q⟩ := h
  unfold RoomD at hr
  exact rcAt_rep I X.A d e x y v u h1 h2 rx ry (by omega) X.prog X.w _ _ ⟨.bl _, H, I, rfl, q⟩
theorem op_neD (hr : RoomD X) : OpR X (compareOp .NotEq) (rNeD X.K) := by
  intro pins s σ H x y v u Q I rx ry h
  obtain ⟨d, e, h1, h2, h3, q⟩ := h
  unfold RoomD at hr
  exact rcNeAt_rep I X.A d e x y v u h1 h2 rx ry (by omega) X.prog X.w _ _ ⟨.bl _, H, I, rfl, q⟩
theorem roomD_of {A : Around} {k : Nat} (hr : Room k A) : A.units + 60 < cLine := Nat.lt_of_le_of_lt (Nat.add_le_add_left (by decide : 60 ≤ 64) _) hr.units
theorem call_isinst {n : String} : CallR X (.builtin "isinstance") (fun xs H Q => ∃ x t c b, xs = [x, .ty c] ∧ TyOf X.K H x (.type t) ∧ PySem.W.kitOne X.K (.type t) (.type c) = some b ∧ Q (.bl b) H) := by
  intro pins s σ H xs us Q I r h
  obtain ⟨x, t, c, b, rfl, ty, e, q⟩ := h
  obtain ⟨u, w', rfl, ru, rw'⟩ := vals2 r
  cases rw'
  exact isinst_ok I ru ty e fun tk => ⟨.bl b, H, I.tok tk, rfl, q⟩
end
end L2
set_option Elab.async false
set_option linter.all false
set_option maxRecDepth 100000
set_option exponentiation.threshold 2000
namespace L2
open PySem PySem.Spec PyProof.Rows
section
variable {prog : Program} {w : World} {A : Around} {E : Value → Shared → Prop}
end
section
variable {X : Cx}
end
section
variable {K : PySem.W.Frag} {a p : Addr} {xs : List V} {g : TG} {tc : TT} {te : TE} {σ : St} {H : Hp} {Q : VK}
abbrev LcTurn (p : Addr) (g : TG) (tc : TT) (te : TE) (ys : List V) (x : V) (σ : St) (H : Hp) (N : St → List V → Hp → Prop) : Prop :=
  g x σ H fun σ2 H2 => tc σ2 H2 fun b H3 => if b = true then te σ2 H3 fun y H4 => H4 p = some (.lst ys) ∧ N σ2 (ys ++ [y]) (upd H4 p (.lst (ys ++ [y]))) else N σ2 ys H3
theorem lc_gen {n : Nat} {J : It} {js : Cap} (Pv : Nat → St → List V → Hp → Prop) (h0 : Pv 0 (inn js σ) [] (upd H p (.lst [])))
    (hl : ∀ i σ ys H, i ≤ n → Pv i σ ys H → H p = some (.lst ys) ∧ ys.length < sizeLine)
    (hgo : ∀ i σ ys H, i < n → Pv i σ ys H → J.go i H) (hst : ∀ σ ys H, Pv n σ ys H → J.stop n H)
    (hs : ∀ (i : Nat) x σ ys H H' (N : St → List V → Hp → Prop), i < n → J.yld i H x H' → Pv i σ ys H → (∀ σ' ys' H', Pv (i + 1) σ' ys' H' → N σ' ys' H') → LcTurn p g tc te ys x σ H' N)
    (hd : ∀ σ ys H, Pv n σ ys H → Q (.ref p) H) :
    LcGoal J p js g tc te σ H Q := by
  refine ⟨fun i m σ ys H => m = n - i ∧ i ≤ n ∧ Pv i σ ys H, ⟨n, by simp, Nat.zero_le _, h0⟩, ?_⟩
  rintro i m σ ys H ⟨rfl, hi, pv⟩
  obtain ⟨q1, q2⟩ := hl i σ ys H hi pv
  refine ⟨q1, ?_⟩
  by_cases lt : i < n
  · exact .inr ⟨hgo i σ ys H lt pv, q2, fun x H' y => hs i x σ ys H H' (fun σ2 ys2 H2 => ∃ m', m' < n - i ∧ m' = n - (i + 1) ∧ i + 1 ≤ n ∧ Pv (i + 1) σ2 ys2 H2) lt y pv fun σ' ys' H' p' => ⟨n - (i + 1), by omega, rfl, lt, p'⟩⟩
  · have e : i = n := by omega
    subst e
    exact .inl ⟨hst σ ys H pv, hd σ ys H pv⟩
theorem lc_list {js : Cap} (Pv : Nat → St → List V → Hp → Prop) (h0 : Pv 0 (inn js σ) [] (upd H p (.lst [])))
    (hl : ∀ i σ ys H, i ≤ xs.length → Pv i σ ys H → SqL K H a xs ∧ H p = some (.lst ys) ∧ ys.length < sizeLine)
    (hs : ∀ (i : Nat) x σ ys H (N : St → List V → Hp → Prop), xs[i]? = some x → Pv i σ ys H → (∀ σ' ys' H', Pv (i + 1) σ' ys' H' → N σ' ys' H') → LcTurn p g tc te ys x σ H N)
    (hd : ∀ σ ys H, Pv xs.length σ ys H → Q (.ref p) H) : LcGoal (Itl K a) p js g tc te σ H Q :=
  lc_gen (n := xs.length) (J := Itl K a) (js := js) (σ := σ) (H := H) (p := p) (Q := Q) (g := g) (tc := tc) (te := te) Pv h0 (fun i σ ys H hi pv => (hl i σ ys H hi pv).2)
    (fun i σ ys H hi pv => ⟨xs, xs[i], (hl i σ ys H (Nat.le_of_lt hi) pv).1, by simp [hi]⟩) (fun σ ys H pv => ⟨xs, (hl _ σ ys H (Nat.le_refl _) pv).1, Nat.le_refl _⟩)
    (fun i x σ ys H H' N hi y pv hN => by
      obtain ⟨e, y⟩ := y
      subst e
      exact hs i x σ ys _ N (y xs (hl i σ ys _ (Nat.le_of_lt hi) pv).1) pv hN) hd
theorem lc_tup {js : Cap} (Pv : Nat → St → List V → Hp → Prop) (h0 : Pv 0 (inn js σ) [] (upd H p (.lst [])))
    (hl : ∀ i σ ys H, i ≤ xs.length → Pv i σ ys H → SqT K H a xs ∧ H p = some (.lst ys) ∧ ys.length < sizeLine)
    (hs : ∀ (i : Nat) x σ ys H (N : St → List V → Hp → Prop), xs[i]? = some x → Pv i σ ys H → (∀ σ' ys' H', Pv (i + 1) σ' ys' H' → N σ' ys' H') → LcTurn p g tc te ys x σ H N)
    (hd : ∀ σ ys H, Pv xs.length σ ys H → Q (.ref p) H) : LcGoal (Itt K a) p js g tc te σ H Q :=
  lc_gen (n := xs.length) (J := Itt K a) (js := js) (σ := σ) (H := H) (p := p) (Q := Q) (g := g) (tc := tc) (te := te) Pv h0 (fun i σ ys H hi pv => (hl i σ ys H hi pv).2)
    (fun i σ ys H hi pv => ⟨xs, xs[i], (hl i σ ys H (Nat.le_of_lt hi) pv).1, by simp [hi]⟩) (fun σ ys H pv => ⟨xs, (hl _ σ ys H (Nat.le_refl _) pv).1, Nat.le_refl _⟩)
    (fun i x σ ys H H' N hi y pv hN => by
      obtain ⟨e, y⟩ := y
      subst e
      exact hs i x σ ys _ N (y xs (hl i σ ys _ (Nat.le_of_lt hi) pv).1) pv hN) hd
theorem lc_range {js : Cap} {lo : Int} {n : Nat} (Pv : Nat → St → List V → Hp → Prop) (h0 : Pv 0 (inn js σ) [] (upd H p (.lst [])))
    (hl : ∀ i σ ys H, i ≤ n → Pv i σ ys H → H p = some (.lst ys) ∧ ys.length < sizeLine)
    (hs : ∀ (i : Nat) σ ys H (N : St → List V → Hp → Prop), i < n → Pv i σ ys H → (∀ σ' ys' H', Pv (i + 1) σ' ys' H' → N σ' ys' H') → LcTurn p g tc te ys (.int (lo + i)) σ H N)
    (hd : ∀ σ ys H, Pv n σ ys H → Q (.ref p) H) : LcGoal (Itr lo n) p js g tc te σ H Q :=
  lc_gen (n := n) (J := Itr lo n) (js := js) (σ := σ) (H := H) (p := p) (Q := Q) (g := g) (tc := tc) (te := te) Pv h0 hl
    (fun i σ ys H hi pv => hi) (fun σ ys H pv => Nat.le_refl n)
    (fun i x σ ys H H' N hi y pv hN => by
      obtain ⟨e, y⟩ := y
      subst e y
      exact hs i σ ys _ N hi pv hN) hd
end
def capCheck (outer : Scope) (N N' : List Str) (js : Cap) (scope : Scope) : Bool :=
  decide (js.length = N'.length) && (scope.kind == .function) && scope.names.all (fun p => p.2 != .cell && (p.2 != .local || scope.names.lookup p.1 == some .local) && (p.2 != .free || (outer.names.lookup p.1 == some .cell || outer.names.lookup p.1 == some .free)))
    && (List.range js.length).all fun i => match js[i]? with
      | some (some j) => (match N'[i]? with | some x => N[j]? == some x && scope.names.lookup x == some .free | none => false)
      | _ => true
theorem capOk {X : Cx} {N N' : List Str} {js : Cap} {scope outer : Scope} (h : capCheck outer N N' js scope = true) (hN : X.N = N := by rfl) (ho : X.env.scope = outer := by rfl) : CapOk X N' js scope := by
  subst hN ho
  unfold capCheck at h
  rw [Bool.and_eq_true, Bool.and_eq_true, Bool.and_eq_true] at h
  obtain ⟨⟨⟨h1, h2⟩, h3⟩, h4⟩ := h
  rw [List.all_eq_true] at h3 h4
  refine ⟨of_decide_eq_true h1, eq_of_beq h2, fun p hp e => ?_, fun p hp e => ?_, fun p hp e => ?_, fun i j e => ?_⟩
  · have := h3 p hp
    rw [e] at this
    simp at this
  · have := h3 p hp
    rw [e] at this
    simp at this
    exact this
  · have := h3 p hp
    rw [e] at this
    simp at this
    exact this
  · have hi : i < js.length := (List.getElem?_eq_some_iff.mp e).1
    have := h4 i (List.mem_range.mpr hi)
    rw [e] at this
    simp only at this
    cases q : N'[i]? with
    | none => rw [q] at this; cases this
    | some x =>
      rw [q] at this
      simp only [Bool.and_eq_true, beq_iff_eq] at this
      exact ⟨x, rfl, this.1, this.2⟩
end L2
set_option Elab.async false
set_option linter.all false
set_option maxRecDepth 100000
set_option exponentiation.threshold 2000
namespace L2
open PySem PySem.Spec PyProof.Rows
def FnH (P : Program) (w : World) (K : PySem.W.Frag) (mg : Str → Option Value) (base : Heap) (k : Nat) (x : Str) (ps : List Str) (sp : Sp) : Prop :=
  ∃ f fd, FnOk P w K mg base CX0 k f fd ps sp ∧ Binds K fd ps [] ∧ PySem.W.keepIn K (.ref f) = true ∧ mg x = some (.ref f)
section
variable {X : Cx} {k : Nat} {x : Str} {ps : List Str} {sp : Sp} {e : Expr} {es : List Expr} {t : TA} {p pos : Pos}
theorem pe_fn (F : FnH X.prog X.w X.K X.mg X.base k x ps sp) (hr : Room k X.A) (hg : Gl X x) (ha : PA X (e :: es) t) (hdb : (x == ("__debug__" : Str)) = false := by decide)
    (he : starEach (e :: es) X.env = (false, eval e X.env) :: starEach es X.env := by rfl) (hpl : (backTo pos (starEach es X.env)).any (·.1) = false := by rfl) : PE X (.Call (.Name x p) (e :: es) [] pos) (tCall sp [] E0 t) := by
  obtain ⟨f, fd, h1, h2, h3, h4⟩ := F
  exact pe_call h1 hr hg h4 h3 h2 .nil pass0 ha hdb he hpl
end
structure Bl (mg : Str → Option Value) : Prop where
  len_ : mg "len" = none
  range_ : mg "range" = none
  isinstance_ : mg "isinstance" = none
  int_ : mg "int" = none
  bool_ : mg "bool" = none
  tuple_ : mg "tuple" = none
  list_ : mg "list" = none
  max_ : mg "max" = none
  min_ : mg "min" = none
  all_ : mg "all" = none
  zip_ : mg "zip" = none
  str_ : mg "str" = none
  dict_ : mg "dict" = none
  sorted_ : mg "sorted" = none
  set_ : mg "set" = none
  any_ : mg "any" = none
  sum_ : mg "sum" = none
  enumerate_ : mg "enumerate" = none
  repr_ : mg "repr" = none
  ord_ : mg "ord" = none
  chr_ : mg "chr" = none
  abs_ : mg "abs" = none
  reversed_ : mg "reversed" = none
theorem bt_int : bootBuiltins "int" = some (.type "int") := by decide +kernel
theorem bt_bool : bootBuiltins "bool" = some (.type "bool") := by decide +kernel
theorem bt_tuple : bootBuiltins "tuple" = some (.type "tuple") := by decide +kernel
theorem bt_list : bootBuiltins "list" = some (.type "list") := by decide +kernel
theorem bt_str : bootBuiltins "str" = some (.type "str") := by decide +kernel
theorem bt_dict : bootBuiltins "dict" = some (.type "dict") := by decide +kernel
theorem bt_set : bootBuiltins "set" = some (.type "set") := by decide +kernel
theorem bt_isinstance : bootBuiltins "isinstance" = some (.builtin "isinstance") := by decide +kernel
theorem bt_len : bootBuiltins "len" = some (.builtin "len") := by decide +kernel
theorem bt_max : bootBuiltins "max" = some (.builtin "max") := by decide +kernel
theorem bt_min : bootBuiltins "min" = some (.builtin "min") := by decide +kernel
theorem bt_all : bootBuiltins "all" = some (.builtin "all") := by decide +kernel
theorem bt_sorted : bootBuiltins "sorted" = some (.builtin "sorted") := by decide +kernel
theorem small {n : Nat} (h : n ≤ 1000) : n ≤ sizeLine := Nat.le_of_lt (small1000 h)
theorem same_new {H : Hp} {p : Addr} (h : H p = none) (o : HO) : Same H (upd H p o) := fun b u q => by rw [upd_ne (ne_of_none q h)]; exact q
def eV : Option Int → V
  | none => .non
  | some i => .int i
def bigM : Int := 618970019642690137449562111
structure Bag (H : Hp) (b g l : Addr) (n : Int) : Prop where
  ex : ∃ (gs ls : List Int) (c st : Int), H b = some (.lst [.ref g, .ref l, .int c, .int st]) ∧ H g = some (.lst (gs.map V.int)) ∧ H l = some (.lst (ls.map V.int)) ∧
    gs.length ≤ 63 ∧ 0 < ls.length ∧ ls.length ≤ 64 ∧ (∀ x ∈ ls, 0 ≤ x ∧ x < 10 ^ 18) ∧ 0 ≤ c ∧ c ≤ n ∧ 0 ≤ st ∧ st < bigM
  gl : g ≠ l
def SameB (b g : Addr) (H H' : Hp) : Prop := ∀ a o, H a = some o → a ≠ b → a ≠ g → H' a = some o
theorem Bag.bg {H : Hp} {b g l : Addr} {n : Int} (B : Bag H b g l n) : b ≠ g := by
  obtain ⟨gs, ls, c, st, h1, h2, _⟩ := B.ex
  intro e
  rw [e, h2] at h1
  cases gs with
  | nil => cases h1
  | cons x r => injection h1 with h1; injection h1 with h1; injection h1 with h1 _; cases h1
theorem Bag.bl {H : Hp} {b g l : Addr} {n : Int} (B : Bag H b g l n) : b ≠ l := by
  obtain ⟨gs, ls, c, st, h1, h2, h3, _⟩ := B.ex
  intro e
  rw [e, h3] at h1
  cases ls with
  | nil => cases h1
  | cons x r => injection h1 with h1; injection h1 with h1; injection h1 with h1 _; cases h1
theorem Bag.mono {H : Hp} {b g l : Addr} {n m : Int} (B : Bag H b g l n) (h : n ≤ m) : Bag H b g l m := by
  obtain ⟨⟨gs, ls, c, st, h1, h2, h3, h4, h5, h6, h7, h8, h9, h10⟩, gl⟩ := B
  exact ⟨⟨gs, ls, c, st, h1, h2, h3, h4, h5, h6, h7, h8, Int.le_trans h9 h, h10⟩, gl⟩
theorem Bag.same {H H' : Hp} {b g l : Addr} {n : Int} (B : Bag H b g l n) (h : Same H H') : Bag H' b g l n := by
  obtain ⟨⟨gs, ls, c, st, h1, h2, h3, h4⟩, gl⟩ := B
  exact ⟨⟨gs, ls, c, st, h _ _ h1, h _ _ h2, h _ _ h3, h4⟩, gl⟩
theorem SameB.refl (b g : Addr) (H : Hp) : SameB b g H H := fun _ _ h _ _ => h
theorem SameB.trans {b g : Addr} {H H1 H2 : Hp} (x : SameB b g H H1) (y : SameB b g H1 H2) : SameB b g H H2 := fun a o h n1 n2 => y a o (x a o h n1 n2) n1 n2
theorem Same.sameB {b g : Addr} {H H1 : Hp} (x : Same H H1) : SameB b g H H1 := fun a o h _ _ => x a o h
theorem SameB.tup {b g l : Addr} {n : Int} {H H' : Hp} (B : Bag H b g l n) (s : SameB b g H H') {a : Addr} {xs : List V} (h : H a = some (.tup xs)) : H' a = some (.tup xs) := by
  obtain ⟨gs, ls, c, st, h1, h2, _⟩ := B.ex
  exact s a _ h (ne_of h h1 (by intro z; cases z)) (ne_of h h2 (by intro z; cases z))
theorem Bag.free {H : Hp} {b g l : Addr} {n : Int} (B : Bag H b g l n) {p : Addr} (h : H p = none) : p ≠ b ∧ p ≠ g ∧ p ≠ l := by
  obtain ⟨gs, ls, c, st, h1, h2, h3, _⟩ := B.ex
  exact ⟨(ne_of_none h1 h).symm, (ne_of_none h2 h).symm, (ne_of_none h3 h).symm⟩
theorem while_then {c : TT} {tb u : TS} {D : Ends} {σ : St} {H : Hp} (W : Nat → St → Hp → Prop) (M : St → Hp → Prop) (h0 : ∃ m, W m σ H)
    (hs : ∀ (m : Nat) σ H (Z : St → Hp → Prop), W m σ H → (∀ σ' H', M σ' H' → Z σ' H') → c σ H fun b H1 => if b = true then ∃ N : St → Hp → Prop, (∀ σ' H', N σ' H' → ∃ m', m' < m ∧ W m' σ' H') ∧ tb { nx := N, rt := D.rt, bk := Z, ct := N } σ H1 else Z σ H1)
    (hd : ∀ σ H, M σ H → u D σ H) : tSeq (tWhile c tb) u D σ H := ⟨W, h0, fun m σ H w => hs m σ H (u D) w hd⟩
theorem rep_ints {K : PySem.W.Frag} {H : Hp} : ∀ ns : List Int, Reps K H (ns.map PD.int) (ns.map V.int)
  | [] => by show Reps K H [] []; rw [Reps]
  | n :: ns => by
    show Reps K H (.int n :: ns.map PD.int) (.int n :: ns.map V.int)
    rw [Reps]
    exact ⟨_, _, rfl, by rw [Rep], rep_ints ns⟩
theorem depth_ints : ∀ ns : List Int, depthDs (ns.map PD.int) = 0
  | [] => by show depthDs [] = 0; rw [depthDs]
  | n :: ns => by
    show depthDs (.int n :: ns.map PD.int) = 0
    rw [depthDs, depth_ints ns, depthD]
    all_goals simp
theorem neNil {K : PySem.W.Frag} {H : Hp} {a p : Addr} {ns : List Int} {Q : VK} (h : SqL K H a (ns.map V.int)) (hp : SqL K H p []) (q : Q (.bl (!ns.isEmpty)) H) : rNeD K (.ref a) (.ref p) H Q := by
  refine ⟨.lst (ns.map PD.int), .lst [], by rw [Rep]; exact ⟨a, _, rfl, h, rep_ints ns⟩, by rw [Rep]; exact ⟨p, _, rfl, hp, by rw [Reps]⟩, by rw [depthD, depth_ints]; decide, ?_⟩
  cases ns with
  | nil => rw [pyEq, show pyEqs (([] : List Int).map PD.int) [] = true from pyEqs_refl []]; exact q
  | cons n ns => rw [pyEq, pyEqs_len (by simp)]; exact q
theorem at0 {α : Type} {x : α} {r : List α} : atI (x :: r) 0 = some x := atI_nat (j := 0) rfl
theorem ix0 {α : Type} {x : α} {r : List α} : ixN (x :: r).length 0 = some 0 := by
  unfold ixN
  rw [if_pos (by decide), if_pos (by rw [List.length_cons]; omega)]
  rfl
theorem atInts {ls : List Int} {i : Int} (h0 : 0 ≤ i) (h1 : i < (ls.length : Int)) : ∃ v, atI (ls.map V.int) i = some (.int v) ∧ v ∈ ls := by
  obtain ⟨k, rfl⟩ := Int.eq_ofNat_of_zero_le h0
  have hk : k < ls.length := by omega
  exact ⟨ls[k], atI_nat (by rw [List.getElem?_map, List.getElem?_eq_getElem hk]; rfl), List.getElem_mem _⟩
theorem sz0 : (0 : Nat) ≤ sizeLine := Nat.zero_le _
def spDraw : Sp := fun vs H Q _ => ∃ (b g l : Addr) (n many : Int), vs = [.ref b, .int many] ∧ Bag H b g l n ∧ n ≤ 2 ^ 40 ∧ 0 < many ∧ many < 2 ^ 500 ∧
  ∀ (r : Int) (H' : Hp), 0 ≤ r → r < many → Bag H' b g l (n + 1) → SameB b g H H' → Q (.int r) H'
def spBag (K : PySem.W.Frag) : Sp := fun vs H Q _ => ∃ (a : Addr) (ns : List Int), vs = [.ref a] ∧ SqL K H a (ns.map V.int) ∧ ns.length ≤ 63 ∧
  ∀ (b g l : Addr) (H' : Hp), Bag H' b g l 0 → Same H H' → H b = none → H g = none → Q (.ref b) H'
theorem take_snoc {α : Type} {l : List α} {i : Nat} {x : α} (h : l[i]? = some x) : l.take (i + 1) = l.take i ++ [x] := by
  rw [List.take_succ, h]
  rfl
theorem lc_ints {K : PySem.W.Frag} {H : Hp} {a p : Addr} {Q : VK} {js : Cap} {σ cap : St} {tc : TT} {te : TE} (ns : List Int) (f : Int → Int) (c : Int → Bool) (hn : ns.length ≤ 900) (e : SqL K H a (ns.map V.int)) (hp : H p = none) (hσ : inn js σ = none :: cap)
    (ht : ∀ n H' (R : Bool → Hp → Prop), Same H H' → R (c n) H' → tc (some (.int n) :: cap) H' R) (he : ∀ n H' (R : VK), Same H H' → R (.int (f n)) H' → te (some (.int n) :: cap) H' R)
    (hq : ∀ H', Same H H' → H' p = some (.lst (((ns.filter c).map f).map V.int)) → Q (.ref p) H') : LcGoal (Itl K a) p js (gName 0) tc te σ H Q := by
  have s0 := same_new hp (.lst [])
  refine lc_list (xs := ns.map V.int) (fun i σ' ys H' => (∃ v, σ' = v :: cap) ∧ Same H H' ∧ H' p = some (.lst ys) ∧ ys = ((((ns.take i).filter c).map f).map V.int)) ⟨⟨_, hσ⟩, s0, upd_same, rfl⟩ ?_ ?_ ?_
  · rintro i σ' ys H' hi ⟨_, s, h1, h2⟩
    refine ⟨s.seq e, h1, ?_⟩
    rw [h2]
    simp only [List.length_map]
    have := List.length_filter_le c (ns.take i)
    rw [List.length_take] at this
    exact small1000 (by omega)
  · rintro i x σ' ys H' N hx ⟨⟨v, rfl⟩, s, h1, h2⟩ hN
    rw [List.getElem?_map] at hx
    cases hn' : ns[i]? with
    | none => rw [hn'] at hx; cases hx
    | some n =>
      rw [hn'] at hx
      have hx : V.int n = x := Option.some.inj hx
      subst hx
      refine ht n H' _ s ?_
      have e1 := take_snoc hn'
      cases hc : c n with
      | true =>
        refine iteT (he n H' _ s ⟨h1, hN _ _ _ ⟨⟨_, rfl⟩, ?_, upd_same, ?_⟩⟩)
        · intro b o q
          have : b ≠ p := fun z => by rw [z, hp] at q; cases q
          rw [upd_ne this]
          exact s b o q
        · rw [h2, e1, List.filter_append, List.filter_cons, if_pos hc]
          simp
      | false =>
        refine iteF (hN _ _ _ ⟨⟨_, rfl⟩, s, h1, ?_⟩)
        rw [h2, e1, List.filter_append, List.filter_cons, if_neg (by rw [hc]; exact Bool.false_ne_true)]
        simp
  · rintro σ' ys H' ⟨_, s, h1, h2⟩
    refine hq H' s ?_
    rw [h1, h2, List.length_map, List.take_length]
theorem Same.seqT {K : PySem.W.Frag} {H H' : Hp} {a : Addr} {xs : List V} (e : Same H H') (h : SqT K H a xs) : SqT K H' a xs := by
  rcases h with (h | ⟨o, h⟩) | h
  · exact .inl (.inl (e _ _ h))
  · exact .inl (.inr ⟨o, e _ _ h⟩)
  · exact .inr h
end L2
set_option Elab.async false
set_option linter.all false
set_option maxRecDepth 100000
set_option exponentiation.threshold 2000
namespace L2
open PySem PySem.Spec PyProof.Rows
def Itv (xs : List V) : It := ⟨fun i _ => i < xs.length, fun i H x H' => H' = H ∧ xs[i]? = some x, fun i _ => xs.length ≤ i⟩
theorem turn_strascii {P : Program} {w : World} {K : PySem.W.Frag} {tg : Expr} (it : Addr) (x : Str) (t : Tok) : Turn P w K tg (Itv (x.cps.toList.map fun c => V.str ⟨#[c]⟩)) [it] it (fun i h => h.IsStrIter it "str_ascii_iterator" x t i) where
  mem := by simp
  obj := fun i h st b hb => by
    have e : b = it := by simpa using hb
    subst e
    obtain ⟨o, e, c, d⟩ := st
    exact ⟨o, e, fun v z => by rw [d] at z; cases z⟩
  keep := fun i h h' st k => let ⟨o, ho, r⟩ := st; ⟨o, k it (by simp) o ho, r⟩
  item := by
    intro X hP hw hK hc i pins s σ H E I hf st hg
    subst hP hw hK
    have hg : i < (x.cps.toList.map fun c => V.str ⟨#[c]⟩).length := hg
    rw [List.length_map, Array.length_toList] at hg
    obtain ⟨f0, f1, f2, f3, f4, f5⟩ := hf it (by simp)
    refine wpAny_pyNext_ascii_item st (c := x.cps[i]) (by simp [hg]) fun h' st' sb => ?_
    have I1 : Inv X pins σ H { s with heap := h', toks := s.toks + 1 } := I.turned (fun b o hb e => (sb.2 b hb).trans e) f0 f1 f3 f4 f5
    obtain ⟨o, e, c, d⟩ := id st'
    exact ⟨_, rfl, go_of (s := { s with heap := h', toks := s.toks + 1 }) e c d (by decide) ⟨.str ⟨#[x.cps[i]]⟩, H, I1, ⟨_, rfl⟩, ⟨rfl, by rw [List.getElem?_map, Array.getElem?_toList, Array.getElem?_eq_getElem hg]; rfl⟩, st', fun b hb => (hf b hb).1⟩⟩
  done := by
    intro X hP hw hK hc i pins s σ H E I hf st hg
    subst hP hw hK
    have hg : (x.cps.toList.map fun c => V.str ⟨#[c]⟩).length ≤ i := hg
    rw [List.length_map, Array.length_toList] at hg
    obtain ⟨f0, f1, f2, f3, f4, f5⟩ := hf it (by simp)
    exact wpAny_pyNext_ascii_end (I.ok.hd hc) st (by simpa using hg) fun h' eb => ⟨rfl, I.turned (t' := s.toks) (fun b o hb e => eb b o hb e) f0 f1 f3 f4 f5⟩
  self := fun _ _ _ _ _ st h => wpAny_pyIter_striter_ascii st h
theorem turn_strwide {P : Program} {w : World} {K : PySem.W.Frag} {tg : Expr} (it : Addr) (x : Str) (t : Tok) : Turn P w K tg (Itv (x.cps.toList.map fun c => V.str ⟨#[c]⟩)) [it] it (fun i h => h.IsStrIter it "str_iterator" x t i) where
  mem := by simp
  obj := fun i h st b hb => by
    have e : b = it := by simpa using hb
    subst e
    obtain ⟨o, e, c, d⟩ := st
    exact ⟨o, e, fun v z => by rw [d] at z; cases z⟩
  keep := fun i h h' st k => let ⟨o, ho, r⟩ := st; ⟨o, k it (by simp) o ho, r⟩
  item := by
    intro X hP hw hK hc i pins s σ H E I hf st hg
    subst hP hw hK
    have hg : i < (x.cps.toList.map fun c => V.str ⟨#[c]⟩).length := hg
    rw [List.length_map, Array.length_toList] at hg
    obtain ⟨f0, f1, f2, f3, f4, f5⟩ := hf it (by simp)
    refine wpAny_pyNext_wide_item st (c := x.cps[i]) (by simp [hg]) fun h' st' sb => ?_
    have I1 : Inv X pins σ H { s with heap := h', toks := s.toks + 1 } := I.turned (fun b o hb e => (sb.2 b hb).trans e) f0 f1 f3 f4 f5
    obtain ⟨o, e, c, d⟩ := id st'
    exact ⟨_, rfl, go_of (s := { s with heap := h', toks := s.toks + 1 }) e c d (by decide) ⟨.str ⟨#[x.cps[i]]⟩, H, I1, ⟨_, rfl⟩, ⟨rfl, by rw [List.getElem?_map, Array.getElem?_toList, Array.getElem?_eq_getElem hg]; rfl⟩, st', fun b hb => (hf b hb).1⟩⟩
  done := by
    intro X hP hw hK hc i pins s σ H E I hf st hg
    subst hP hw hK
    have hg : (x.cps.toList.map fun c => V.str ⟨#[c]⟩).length ≤ i := hg
    rw [List.length_map, Array.length_toList] at hg
    obtain ⟨f0, f1, f2, f3, f4, f5⟩ := hf it (by simp)
    exact wpAny_pyNext_wide_end (I.ok.hd hc) st (by simpa using hg) fun h' eb => ⟨rfl, I.turned (t' := s.toks) (fun b o hb e => eb b o hb e) f0 f1 f3 f4 f5⟩
  self := fun _ _ _ _ _ st h => wpAny_pyIter_striter_wide st h
section
variable {X : Cx} {tg : Expr}
def signs (x : Str) : List V := x.cps.toList.map fun c => V.str ⟨#[c]⟩
def iStr (tl : TE) : TI := fun σ H R => tl σ H fun v H1 => ∃ x, v = .str x ∧ R (Itv (signs x)) H1
theorem pi_str {l : Expr} {tl : TE} (hl : PE X l tl) : PI X tg l (iStr tl) := by
  intro pins s σ H R I h
  refine thn (hl pins s σ H _ I h) fun v s1 ⟨y, H1, I1, r1, q1⟩ => ?_
  obtain ⟨x, e, q⟩ := q1
  subst e
  obtain ⟨t, rfl⟩ := r1
  cases ha : x.cps.all (· < 128)
  · refine wpAny_pyIter_wide ha ?_
    refine ⟨s1.heap.objs.size, [s1.heap.objs.size], _, _, H1, rfl, I1.kept (t' := s1.toks) fun b o e => Heap.get?_push_of_some _ e, turn_strwide _ x t, ⟨_, Heap.get?_push_size _ rfl, rfl, rfl⟩, fun b hb => ?_, q⟩
    have e : b = s1.heap.objs.size := by simpa using hb
    subst e
    exact I1.fpOk (Nat.le_refl _) (I1.hok.fresh (Nat.le_refl _))
  · refine wpAny_pyIter_ascii ha ?_
    refine ⟨s1.heap.objs.size, [s1.heap.objs.size], _, _, H1, rfl, I1.kept (t' := s1.toks) fun b o e => Heap.get?_push_of_some _ e, turn_strascii _ x t, ⟨_, Heap.get?_push_size _ rfl, rfl, rfl⟩, fun b hb => ?_, q⟩
    have e : b = s1.heap.objs.size := by simpa using hb
    subst e
    exact I1.fpOk (Nat.le_refl _) (I1.hok.fresh (Nat.le_refl _))
theorem op_le_str : OpR X (compareOp .LtE) (fun x y H Q => ∃ i j, x = .str i ∧ y = .str j ∧ Q (.bl (!decide (j.cps.toList < i.cps.toList))) H) := by
  intro pins s σ H x y v u Q I rx ry h
  obtain ⟨i, j, rfl, rfl, q⟩ := h
  obtain ⟨t, rfl⟩ := rx
  obtain ⟨t', rfl⟩ := ry
  exact PySem.P.le_str (fin_bl I q rfl)
theorem call_all (hc : X.calm = true) : CallR X (.builtin "all") (fun xs H Q => ∃ (a : Addr) (bs : List Bool), xs = [.ref a] ∧ SqL X.K H a (bs.map V.bl) ∧ Q (.bl (bs.all id)) H) := by
  intro pins s σ H xs us Q I r h
  obtain ⟨a, bs, rfl, hq, q⟩ := h
  obtain ⟨u, rfl, ru⟩ := vals1 r
  cases ru
  obtain ⟨its, rv, p, hzz⟩ := I.list hq
  have ll := rv.length
  rw [List.length_map] at ll
  refine call_all_walk (wpAny_pyIter_list p.isList ?_)
  obtain ⟨o, ho, _⟩ := id p.isList
  have lt := Heap.lt_size ho
  refine ⟨s.heap.objs.size, _, _, _, _, _, fun i => bs.getD i false, rfl, Walks.list (A := X.A.in1) (I.ok.hd hc) s.heap.objs.size a (Nat.ne_of_lt lt) its.toArray, ⟨⟨_, Heap.get?_push_size _ rfl, rfl, rfl⟩, p.isList.at fun o' e => Heap.get?_push_of_some _ e⟩, ?_, fun g t' k => ?_⟩
  · intro i v s' Q' E' hv q'
    have hi : its[i]? = some v := by simpa using hv
    have hl : i < its.length := (List.getElem?_eq_some_iff.mp hi).1
    have e : (bs.map V.bl)[i]? = some (.bl (bs.getD i false)) := by
      rw [List.getElem?_map, List.getElem?_eq_getElem (by omega), List.getD_eq_getElem?_getD, List.getElem?_eq_getElem (by omega)]
      rfl
    obtain ⟨u, h1, h2⟩ := Vals.get rv e
    rw [hi] at h1
    cases h1
    cases h2
    exact wpAny_truthy_bool q'
  · refine ⟨.bl (bs.all id), H, I.kept (fun b o' e => k b o' ?_ (Heap.get?_push_of_some _ e)), ?_, q⟩
    · intro z
      exact absurd (List.mem_singleton.mp z) (Nat.ne_of_lt (Heap.lt_size e))
    · show Value.bool _ = Value.bool _
      congr 1
      rw [List.size_toArray, ← ll]
      clear rv ll hq q p ho lt hzz
      induction bs with
      | nil => rfl
      | cons b r ih =>
        rw [List.length_cons, List.range_succ_eq_map, List.all_cons, List.all_map, List.all_cons, ← ih]
        rfl
end
theorem lc_itv {xs : List V} {p : Addr} {g : TG} {tc : TT} {te : TE} {σ : St} {H : Hp} {Q : VK} {js : Cap} (Pv : Nat → St → List V → Hp → Prop) (h0 : Pv 0 (inn js σ) [] (upd H p (.lst [])))
    (hl : ∀ i σ ys H, i ≤ xs.length → Pv i σ ys H → H p = some (.lst ys) ∧ ys.length < sizeLine)
    (hs : ∀ (i : Nat) x σ ys H (N : St → List V → Hp → Prop), xs[i]? = some x → Pv i σ ys H → (∀ σ' ys' H', Pv (i + 1) σ' ys' H' → N σ' ys' H') → LcTurn p g tc te ys x σ H N)
    (hd : ∀ σ ys H, Pv xs.length σ ys H → Q (.ref p) H) : LcGoal (Itv xs) p js g tc te σ H Q :=
  lc_gen (n := xs.length) (J := Itv xs) (js := js) (σ := σ) (H := H) (p := p) (Q := Q) (g := g) (tc := tc) (te := te) Pv h0 hl
    (fun i σ ys H hi pv => hi) (fun σ ys H pv => Nat.le_refl _)
    (fun i x σ ys H H' N hi y pv hN => by
      obtain ⟨e, y⟩ := y
      subst e
      exact hs i x σ ys _ N y pv hN) hd
end L2
set_option Elab.async false
set_option linter.all false
set_option maxRecDepth 100000
set_option exponentiation.threshold 2000
namespace L2
open PySem PySem.Spec PyProof.Rows
section
variable {prog : Program} {w : World} {A : Around} {E : Value → Shared → Prop} {R : Result → Shared → Prop} {s : Shared}
end
section
variable {X : Cx} {tg iter kx vx : Expr} {ifs : List Expr} {wi : TI} {js : Cap} {g : TG} {tc : TT} {tk tv : TE} {N' : List Str} {scope : Scope} {pos : Pos}
end
end L2
set_option Elab.async false
set_option linter.all false
set_option maxRecDepth 100000
set_option exponentiation.threshold 2000
namespace L2
open PySem PySem.Spec PyProof.Rows
section
variable {prog : Program} {w : World} {A : Around} {E : Value → Shared → Prop} {s : Shared}
theorem nx_item {ti tp : Addr} {k : Nat} {vs : Array Value} {v : Value} {Q : Value → Shared → Prop} (hi : s.heap.IsTupleIter ti tp k) (ht : s.heap.IsTuple tp vs) (hv : vs[k]? = some v)
    (fin : ∀ g, g.IsTupleIter ti tp (k + 1) → Heap.SameBut ti s.heap g → Q v { s with heap := g }) : wpAny (model prog w) A (Builtin.SmallTypes.nextOf (.ref ti)) Q E s := by
  obtain ⟨oi, e1, c1, d1⟩ := id hi
  obtain ⟨ot, e2, _, nt, d2⟩ := ht
  unfold Builtin.SmallTypes.nextOf
  refine wpAny_bind (wpAny_callSpecial?_slot (name := Str.ofString "__next__") hi.typeIs PySem.F.slot_tuple_iterator_next (wpAny_call_entry PySem.F.slot_tuple_iterator_next hi.typeIs PySem.F.entry_tuple_iterator_next ?_ (PySem.F.args_tuple_iterator_next_1 _)))
  show wpAny _ _ (field (.ref ti) 0 >>= _) _ _ s
  refine wpAny_bind (wpAny_field e1 d1 (x := .ref tp) rfl ?_)
  show wpAny _ _ (if (Value.ref tp == Value.none) = true then _ else _) _ _ s
  rw [if_neg (show ¬ ((Value.ref tp == Value.none) = true) from Bool.false_ne_true)]
  show wpAny _ _ (field (.ref ti) 1 >>= _) _ _ s
  refine wpAny_bind (wpAny_field e1 d1 (x := .int k 0) rfl ?_)
  show wpAny _ _ (seqItems? (.ref tp) >>= _) _ _ s
  refine wpAny_bind (wpAny_seqItems e2 d2 ?_)
  simp only [Int.toNat_natCast, hv]
  refine wpAny_bind (wpAny_setField e1 d1 (by simp) (wpAny_pure ⟨v, rfl, wpAny_pure (fin _ ?_ (Heap.SameBut.update ..))⟩))
  exact ⟨_, Heap.get?_update_self _ e1 (Obj.isFreed_of_fields (Obj.data_mapFields d1 _)), (Obj.cls_mapFields ..).trans c1, by rw [Obj.data_mapFields d1]; simp [rawInt]⟩
theorem nx_end {ti tp : Addr} {k : Nat} {vs : Array Value} {Q : Value → Shared → Prop} (hh : A.handled = none) (hi : s.heap.IsTupleIter ti tp k) (ht : s.heap.IsTuple tp vs) (hv : vs[k]? = none)
    (fin : ∀ g e, Heap.ExtBut ti s.heap g → (∃ o, g.get? e = some o ∧ o.cls = .type "StopIteration") → E (.ref e) { s with heap := g }) : wpAny (model prog w) A (Builtin.SmallTypes.nextOf (.ref ti)) Q E s := by
  obtain ⟨oi, e1, c1, d1⟩ := id hi
  obtain ⟨ot, e2, _, nt, d2⟩ := ht
  unfold Builtin.SmallTypes.nextOf
  refine wpAny_bind (wpAny_callSpecial?_slot (name := Str.ofString "__next__") hi.typeIs PySem.F.slot_tuple_iterator_next (wpAny_call_entry PySem.F.slot_tuple_iterator_next hi.typeIs PySem.F.entry_tuple_iterator_next ?_ (PySem.F.args_tuple_iterator_next_1 _)))
  show wpAny _ _ (field (.ref ti) 0 >>= _) _ _ s
  refine wpAny_bind (wpAny_field e1 d1 (x := .ref tp) rfl ?_)
  show wpAny _ _ (if (Value.ref tp == Value.none) = true then _ else _) _ _ s
  rw [if_neg (show ¬ ((Value.ref tp == Value.none) = true) from Bool.false_ne_true)]
  show wpAny _ _ (field (.ref ti) 1 >>= _) _ _ s
  refine wpAny_bind (wpAny_field e1 d1 (x := .int k 0) rfl ?_)
  show wpAny _ _ (seqItems? (.ref tp) >>= _) _ _ s
  refine wpAny_bind (wpAny_seqItems e2 d2 ?_)
  simp only [Int.toNat_natCast, hv]
  refine wpAny_bind (wpAny_rule (wpAny_bind (wpAny_setField e1 d1 (by simp) ?_)))
  show wpAny _ _ (newExc (.type "StopIteration") [] >>= _) _ _ _
  refine wpAny_bind ?_
  simp only [newExc, newTuple]
  refine wpAny_bind (wpAny_newObj_type ?_ (by size_fits))
  refine wpAny_bind (m := firstArgMember _ _) (wpAny_of_eq (a := Value.none) (by first | rfl | (simp only [firstArgMember]; rfl)) ?_)
  refine wpAny_newObj_type ?_ (by size_fits)
  simp only [raiseNew]
  refine wpAny_bind (wpAny_handled ?_)
  first | rw [show A.in1.handled = none from hh] | rw [hh]
  refine wpAny_bind (wpAny_pure (wpAny_throw ?_))
  exact fin _ _ (((Heap.SameBut.update ..).extBut.push _).push _) ⟨_, Heap.get?_push_size _ rfl, rfl⟩
structure ZA (z a b i j : Addr) : Prop where
  az : a ≠ z
  bz : b ≠ z
  iz : i ≠ z
  jz : j ≠ z
  ab : a ≠ b
  ai : a ≠ i
  aj : a ≠ j
  bi : b ≠ i
  bj : b ≠ j
  ij : i ≠ j
theorem tup_off {h h' : Heap} {t c : Addr} {vs : Array Value} (x : h.IsTuple t vs) (hs : Heap.SameBut c h h') (n : t ≠ c) : h'.IsTuple t vs := x.extBut hs.extBut n
theorem zt_item {z a b i j t1 t2 : Addr} {k1 k2 : Nat} {xs ys : Array Value} {x y p q : Value} {Q : Value → Shared → Prop} (D : ZA z a b i j) (n1 : t1 ≠ z ∧ t1 ≠ b ∧ t1 ≠ i ∧ t1 ≠ j) (n2 : t2 ≠ z ∧ t2 ≠ b ∧ t2 ≠ i ∧ t2 ≠ j)
    (hz : IsZip s.heap z a b .none) (ha : IsPair s.heap a (.ref i) (.ref j)) (hb : IsPair s.heap b p q) (h1 : s.heap.IsTupleIter i t1 k1) (h2 : s.heap.IsTupleIter j t2 k2) (g1 : s.heap.IsTuple t1 xs) (g2 : s.heap.IsTuple t2 ys) (hx : xs[k1]? = some x) (hy : ys[k2]? = some y)
    (fin : ∀ g, IsZip g z a b (rawInt s.heap.objs.size) → IsPair g b x y → g.IsTupleIter i t1 (k1 + 1) → g.IsTupleIter j t2 (k2 + 1) → IsPair g s.heap.objs.size x y →
      (∀ c o, c ≠ z → c ≠ b → c ≠ i → c ≠ j → s.heap.get? c = some o → g.get? c = some o) → Q (.ref s.heap.objs.size) { s with heap := g }) :
    wpAny (model prog w) A (Builtin.«zip.__next__» ⟨[.ref z], []⟩) (fun r s' => ∃ v, r = .done (.ret v) ∧ Q v s') E s := by
  show wpAny _ _ (field (.ref z) 2 >>= _) _ _ _
  refine wpAny_bind (wpAny_field hz rfl (x := .bool false) rfl ?_)
  show wpAny _ _ (field (.ref z) 3 >>= _) _ _ _
  refine wpAny_bind (wpAny_field hz rfl (x := .ref a) rfl ?_)
  refine wpAny_bind (wpAny_seqItems ha rfl ?_)
  show wpAny _ _ (Builtin.SmallTypes.ownedTupleIsFree (.ref z) >>= _) _ _ _
  refine wpAny_bind ?_
  unfold Builtin.SmallTypes.ownedTupleIsFree
  refine wpAny_bind (wpAny_field hz rfl (x := .none) rfl (wpAny_pure ?_))
  simp only [if_true]
  refine wpAny_bind (wpAny_rule ?_)
  refine wpAny_bind (wpAny_field hz rfl (x := .ref b) rfl ?_)
  refine wpAny_bind (wpAny_setField_rec hz (by simp) fun w1 z1 m1 => ?_)
  replace z1 : IsZip w1 z a b .ellipsis := z1
  refine wpAny_bind ?_
  simp only [List.zipIdx_cons, List.zipIdx_nil, List.forIn_cons, List.forIn_nil]
  refine wpAny_bind (wpAny_bind (wpAny_onRaise ?_))
  show wpAny _ _ (Builtin.SmallTypes.nextOf (.ref i) >>= _) _ _ _
  refine wpAny_bind (nx_item (h1.extBut m1.extBut D.iz) (tup_off g1 m1 n1.1) hx fun w2 i2 m2 => wpAny_pure ?_)
  have b2 : IsPair w2 b p q := m2.extBut _ _ D.bi (m1.extBut _ _ D.bz hb)
  refine wpAny_bind (wpAny_seqItems b2 rfl ?_)
  refine wpAny_bind (wpAny_updateSeq_pair b2 fun w3 b3 m3 => ?_)
  replace b3 : IsPair w3 b x q := b3
  refine wpAny_bind (wpAny_letGo (wpAny_pure ?_))
  refine wpAny_bind (wpAny_bind (wpAny_onRaise ?_))
  show wpAny _ _ (Builtin.SmallTypes.nextOf (.ref j) >>= _) _ _ _
  refine wpAny_bind (nx_item (((h2.extBut m1.extBut D.jz).extBut m2.extBut D.ij.symm).extBut m3.extBut D.bj.symm) (tup_off (tup_off (tup_off g2 m1 n2.1) m2 n2.2.2.1) m3 n2.2.1) hy fun w4 j4 m4 => wpAny_pure ?_)
  have b4 : IsPair w4 b x q := m4.extBut _ _ D.bj b3
  refine wpAny_bind (wpAny_seqItems b4 rfl ?_)
  refine wpAny_bind (wpAny_updateSeq_pair b4 fun w5 b5 m5 => ?_)
  replace b5 : IsPair w5 b x y := b5
  refine wpAny_bind (wpAny_letGo (wpAny_pure (wpAny_pure ?_)))
  refine wpAny_bind (wpAny_seqItems b5 rfl ?_)
  refine wpAny_bind (wpAny_newTuple ?_)
  have sz : w5.objs.size = s.heap.objs.size := by rw [m5.1, m4.1, m3.1, m2.1, m1.1]
  have z5 : IsZip w5 z a b .ellipsis := m5.extBut _ _ D.bz.symm (m4.extBut _ _ D.jz.symm (m3.extBut _ _ D.bz.symm (m2.extBut _ _ D.iz.symm z1)))
  have k5 : ∀ c o, c ≠ z → c ≠ b → c ≠ i → c ≠ j → s.heap.get? c = some o → w5.get? c = some o := fun c o c1 c2 c3 c4 e =>
    m5.extBut _ _ c2 (m4.extBut _ _ c4 (m3.extBut _ _ c2 (m2.extBut _ _ c3 (m1.extBut _ _ c1 e))))
  have i5 : w5.IsTupleIter i t1 (k1 + 1) := ((i2.extBut m3.extBut D.bi.symm).extBut m4.extBut D.ij).extBut m5.extBut D.bi.symm
  have j5 : w5.IsTupleIter j t2 (k2 + 1) := j4.extBut m5.extBut D.bj.symm
  have zlt : z < w5.objs.size := Heap.lt_size z5
  show wpAny _ _ (Builtin.SmallTypes.ownedTupleHandOut (.ref z) (.ref w5.objs.size) >>= _) _ _ _
  refine wpAny_bind ?_
  unfold Builtin.SmallTypes.ownedTupleHandOut
  have z6 : IsZip (w5.push { cls := .type "tuple", data := .seq #[x, y] }) z a b .ellipsis := Heap.get?_push_of_some _ z5
  refine wpAny_bind (wpAny_setField_rec z6 (by simp) fun w7 z7 m7 => ?_)
  replace z7 : IsZip w7 z a b (rawInt w5.objs.size) := z7
  refine wpAny_setField_rec z7 (by simp) fun w8 z8 m8 => ?_
  replace z8 : IsZip w8 z a b (rawInt w5.objs.size) := z8
  have up : ∀ c o, c ≠ z → w5.get? c = some o → w8.get? c = some o := fun c o c1 e => m8.extBut _ _ c1 (m7.extBut _ _ c1 (Heap.get?_push_of_some _ e))
  have t8 : IsPair w8 w5.objs.size x y := m8.extBut _ _ (Nat.ne_of_gt zlt) (m7.extBut _ _ (Nat.ne_of_gt zlt) (Heap.get?_push_size _ rfl))
  rw [sz] at z8 t8
  refine wpAny_pure ⟨_, rfl, ?_⟩
  show Q (.ref w5.objs.size) _
  rw [sz]
  obtain ⟨oi, ei, ri⟩ := i5
  obtain ⟨oj, ej, rj⟩ := j5
  exact fin w8 z8 (up _ _ D.bz b5) ⟨oi, up _ oi D.iz ei, ri⟩ ⟨oj, up _ oj D.jz ej, rj⟩ t8 fun c o c1 c2 c3 c4 e => up c o c1 (k5 c o c1 c2 c3 c4 e)
theorem zt_end {z a b i j t1 t2 : Addr} {k1 k2 : Nat} {xs ys : Array Value} {p q : Value} {Q : Fin → Shared → Prop} (hh : A.handled = none) (D : ZA z a b i j) (n1 : t1 ≠ z ∧ t1 ≠ b ∧ t1 ≠ i ∧ t1 ≠ j) (n2 : t2 ≠ z ∧ t2 ≠ b ∧ t2 ≠ i ∧ t2 ≠ j)
    (hz : IsZip s.heap z a b .none) (ha : IsPair s.heap a (.ref i) (.ref j)) (hb : IsPair s.heap b p q) (h1 : s.heap.IsTupleIter i t1 k1) (h2 : s.heap.IsTupleIter j t2 k2) (g1 : s.heap.IsTuple t1 xs) (g2 : s.heap.IsTuple t2 ys) (hend : xs[k1]? = none ∨ ys[k2]? = none)
    (fin : ∀ g e, (∀ c o, c ≠ z → c ≠ b → c ≠ i → c ≠ j → s.heap.get? c = some o → g.get? c = some o) → (∃ o, g.get? e = some o ∧ o.cls = .type "StopIteration") → E (.ref e) { s with heap := g }) :
    wpAny (model prog w) A (Builtin.«zip.__next__» ⟨[.ref z], []⟩) Q E s := by
  show wpAny _ _ (field (.ref z) 2 >>= _) _ _ _
  refine wpAny_bind (wpAny_field hz rfl (x := .bool false) rfl ?_)
  show wpAny _ _ (field (.ref z) 3 >>= _) _ _ _
  refine wpAny_bind (wpAny_field hz rfl (x := .ref a) rfl ?_)
  refine wpAny_bind (wpAny_seqItems ha rfl ?_)
  show wpAny _ _ (Builtin.SmallTypes.ownedTupleIsFree (.ref z) >>= _) _ _ _
  refine wpAny_bind ?_
  unfold Builtin.SmallTypes.ownedTupleIsFree
  refine wpAny_bind (wpAny_field hz rfl (x := .none) rfl (wpAny_pure ?_))
  simp only [if_true]
  refine wpAny_bind (wpAny_rule ?_)
  refine wpAny_bind (wpAny_field hz rfl (x := .ref b) rfl ?_)
  refine wpAny_bind (wpAny_setField_rec hz (by simp) fun w1 z1 m1 => ?_)
  replace z1 : IsZip w1 z a b .ellipsis := z1
  refine wpAny_bind ?_
  simp only [List.zipIdx_cons, List.zipIdx_nil, List.forIn_cons, List.forIn_nil]
  refine wpAny_bind (wpAny_bind (wpAny_onRaise ?_))
  show wpAny _ _ (Builtin.SmallTypes.nextOf (.ref i) >>= _) _ _ _
  cases hx : xs[k1]? with
  | none =>
    refine wpAny_bind (nx_end hh (h1.extBut m1.extBut D.iz) (tup_off g1 m1 n1.1) hx fun w2 e m2 he => ?_)
    obtain ⟨oe, e1, e2⟩ := he
    have z2 : IsZip w2 z a b .ellipsis := m2 _ _ D.iz.symm z1
    have ez : e ≠ z := fun u => by subst u; rw [z2] at e1; cases e1; simp at e2
    exact wpAny_setField_rec z2 (by simp) fun w3 _ m3 => fin w3 e (fun c o c1 _ c3 _ u => m3.extBut _ _ c1 (m2 _ _ c3 (m1.extBut _ _ c1 u))) ⟨oe, m3.extBut _ _ ez e1, e2⟩
  | some x =>
    have hy : ys[k2]? = none := by
      rcases hend with u | u
      · rw [hx] at u; cases u
      · exact u
    refine wpAny_bind (nx_item (h1.extBut m1.extBut D.iz) (tup_off g1 m1 n1.1) hx fun w2 i2 m2 => wpAny_pure ?_)
    have b2 : IsPair w2 b p q := m2.extBut _ _ D.bi (m1.extBut _ _ D.bz hb)
    refine wpAny_bind (wpAny_seqItems b2 rfl ?_)
    refine wpAny_bind (wpAny_updateSeq_pair b2 fun w3 b3 m3 => ?_)
    refine wpAny_bind (wpAny_letGo (wpAny_pure ?_))
    refine wpAny_bind (wpAny_bind (wpAny_onRaise ?_))
    show wpAny _ _ (Builtin.SmallTypes.nextOf (.ref j) >>= _) _ _ _
    refine wpAny_bind (nx_end hh (((h2.extBut m1.extBut D.jz).extBut m2.extBut D.ij.symm).extBut m3.extBut D.bj.symm) (tup_off (tup_off (tup_off g2 m1 n2.1) m2 n2.2.2.1) m3 n2.2.1) hy fun w4 e m4 he => ?_)
    obtain ⟨oe, e1, e2⟩ := he
    have z4 : IsZip w4 z a b .ellipsis := m4 _ _ D.jz.symm (m3.extBut _ _ D.bz.symm (m2.extBut _ _ D.iz.symm z1))
    have ez : e ≠ z := fun u => by subst u; rw [z4] at e1; cases e1; simp at e2
    exact wpAny_setField_rec z4 (by simp) fun w5 _ m5 => fin w5 e (fun c o c1 c2 c3 c4 u => m5.extBut _ _ c1 (m4 _ _ c4 (m3.extBut _ _ c2 (m2.extBut _ _ c3 (m1.extBut _ _ c1 u))))) ⟨oe, m5.extBut _ _ ez e1, e2⟩
end
end L2
set_option Elab.async false
set_option linter.all false
set_option maxRecDepth 100000
set_option exponentiation.threshold 2000
namespace L2
open PySem PySem.Spec PyProof.Rows
section
variable {X : Cx} {pins : List (Addr × Obj)} {σ : St} {H : Hp} {s : Shared} {h' : Heap}
theorem Inv.newTup {T : Addr} {x y : V} {t' : Nat} (I : Inv X pins σ H s) (ch : List Addr) (hch : ∀ c ∈ ch, FpOk X pins H c) (keep : ∀ c o, c ∉ ch → s.heap.get? c = some o → h'.get? c = some o) (hT : s.heap.objs.size ≤ T)
    (tup : ∃ its : List Value, Vals [x, y] its ∧ IsTupP h' T its.toArray) : Inv X pins σ (upd H T (.tup [x, y])) { s with heap := h', toks := t' } := by
  have hn : H T = none := I.hok.fresh hT
  have neT : ∀ c o, s.heap.get? c = some o → c ≠ T := fun c o e => Nat.ne_of_lt (Nat.lt_of_lt_of_le (Heap.lt_size e) hT)
  have off : ∀ c u, H c = some u → c ∉ ch := fun c u e z => by rw [(hch c z).1] at e; cases e
  refine I.step (g' := s.gens) (d' := s.drawn) (ch := ch) (fun c hc => ⟨(hch c hc).2.2.2.1, (hch c hc).2.1, (hch c hc).2.2.2.2.1, (hch c hc).2.2.2.2.2⟩) (fun c o _ _ hc e _ => keep c o hc e) (fun c o _ _ hc e _ => ⟨o.slots, keep c o hc e⟩)
    (fun c o _ e n => by rw [upd_ne (neT c o e)]; exact n) (fun c o hc e => ⟨o, keep c o hc e⟩) (fun c xs e => by rw [upd_ne (ne_of_none e hn)]; exact e) (fun c o u e => by rw [upd_ne (ne_of_none e hn)]; exact e)
    (fun c ps e => ⟨#[], by rw [upd_ne (ne_of_none e hn), e]; simp⟩) (fun m hm => ?_) (fun c u e => ?_) I.bare
  · obtain ⟨o, es, ep, ho, r⟩ := hm
    exact ⟨o, es, ep, keep _ o (fun z => (hch _ z).2.1 rfl) ho, r⟩
  · by_cases hc : c = T
    · subst hc
      rw [upd_same] at e
      cases e
      obtain ⟨its, r, p⟩ := tup
      exact ⟨by show 2 ≤ sizeLine; decide, its, r, p⟩
    · rw [upd_ne hc] at e
      refine (I.hok c u e).stay (fun d v hd q => keep d v ?_ q) (fun d q => by rw [upd_ne (ne_of_none q hn)]; exact q) fun d xs q => by rw [upd_ne (ne_of_none q hn)]; exact q
      rcases hd with z | z
      · rw [z]; exact off c u e
      · exact off d _ z
theorem Inv.turnedN {t' : Nat} (I : Inv X pins σ H s) (ch : List Addr) (hch : ∀ c ∈ ch, FpOk X pins H c) (keep : ∀ c o, c ∉ ch → s.heap.get? c = some o → h'.get? c = some o) : Inv X pins σ H { s with heap := h', toks := t' } := by
  have off : ∀ c u, H c = some u → c ∉ ch := fun c u e z => by rw [(hch c z).1] at e; cases e
  refine I.step (g' := s.gens) (d' := s.drawn) (ch := ch) (fun c hc => ⟨(hch c hc).2.2.2.1, (hch c hc).2.1, (hch c hc).2.2.2.2.1, (hch c hc).2.2.2.2.2⟩) (fun c o _ _ hc e _ => keep c o hc e) (fun c o _ _ hc e _ => ⟨o.slots, keep c o hc e⟩)
    (fun c o _ e n => n) (fun c o hc e => ⟨o, keep c o hc e⟩) (fun c xs e => e) (fun c o u e => e) (fun c ps e => ⟨#[], by rw [e]; simp⟩) (fun m hm => ?_) (fun c u e => ?_) I.bare
  · obtain ⟨o, es, ep, ho, r⟩ := hm
    exact ⟨o, es, ep, keep _ o (fun z => (hch _ z).2.1 rfl) ho, r⟩
  · refine (I.hok c u e).stay (fun d v hd q => keep d v ?_ q) (fun _ q => q) fun _ _ q => q
    rcases hd with z | z
    · rw [z]; exact off c u e
    · exact off d _ z
theorem sqT_ne {t c : Addr} {xs : List V} (I : Inv X pins σ H s) (h : SqT X.K H t xs) (f : FpOk X pins H c) : t ≠ c := by
  intro e
  subst e
  rcases h with (h | ⟨o, h⟩) | ⟨o, its, n, hk, _⟩
  · rw [f.1] at h; cases h
  · rw [f.1] at h; cases h
  · have eb := I.ok.mod.kin t o hk
    rcases f.2.2.2.1 with z | z
    · exact I.ok.noex t o eb z
    · exact absurd (Nat.lt_of_lt_of_le (Heap.lt_size eb) (Nat.le_trans I.ok.bsz z)) (Nat.lt_irrefl _)
end
def Itz (K : PySem.W.Frag) (t1 t2 : Addr) : It :=
  ⟨fun k H => ∃ (xs ys : List V) (x y : V), SqT K H t1 xs ∧ SqT K H t2 ys ∧ xs[k]? = some x ∧ ys[k]? = some y,
   fun k H v H' => ∃ p, v = .ref p ∧ H p = none ∧ ∀ (xs ys : List V) (x y : V), SqT K H t1 xs → SqT K H t2 ys → xs[k]? = some x → ys[k]? = some y → H' = upd H p (.tup [x, y]),
   fun k H => ∃ (xs ys : List V), SqT K H t1 xs ∧ SqT K H t2 ys ∧ (xs.length ≤ k ∨ ys.length ≤ k)⟩
theorem turn_zip {P : Program} {w : World} {K : PySem.W.Frag} {es : List Expr} {kk : Nat} {pos : Pos} (t1 t2 z a b i j : Addr) (D : ZA z a b i j) :
    Turn P w K (.Tuple es kk pos) (Itz K t1 t2) [z, a, b, i, j] z (fun k h => IsZip h z a b .none ∧ IsPair h a (.ref i) (.ref j) ∧ (∃ p q, IsPair h b p q) ∧ h.IsTupleIter i t1 k ∧ h.IsTupleIter j t2 k) where
  mem := by simp
  obj := fun k h st c hc => by
    obtain ⟨hz, ha, ⟨p, q, hb⟩, ⟨oi, ei, _, di⟩, ⟨oj, ej, _, dj⟩⟩ := st
    simp only [List.mem_cons, List.not_mem_nil, or_false] at hc
    rcases hc with rfl | rfl | rfl | rfl | rfl
    · exact ⟨_, hz, fun v e => by cases e⟩
    · exact ⟨_, ha, fun v e => by cases e⟩
    · exact ⟨_, hb, fun v e => by cases e⟩
    · exact ⟨oi, ei, fun v e => by rw [di] at e; cases e⟩
    · exact ⟨oj, ej, fun v e => by rw [dj] at e; cases e⟩
  keep := fun k h h' st kp => by
    obtain ⟨hz, ha, ⟨p, q, hb⟩, ⟨oi, ei, ri⟩, ⟨oj, ej, rj⟩⟩ := st
    exact ⟨kp z (by simp) _ hz, kp a (by simp) _ ha, ⟨p, q, kp b (by simp) _ hb⟩, ⟨oi, kp i (by simp) _ ei, ri⟩, ⟨oj, kp j (by simp) _ ej, rj⟩⟩
  item := by
    intro X hP hw hK hc k pins s σ H E I hf st hg
    subst hP hw hK
    obtain ⟨xs, ys, x, y, q1, q2, hx, hy⟩ := hg
    obtain ⟨hz, ha, ⟨p, q, hb⟩, h1, h2⟩ := st
    obtain ⟨its1, r1, g1, _⟩ := I.tuple q1
    obtain ⟨its2, r2, g2, _⟩ := I.tuple q2
    obtain ⟨u1, hu1, v1⟩ := r1.get hx
    obtain ⟨u2, hu2, v2⟩ := r2.get hy
    have fz := hf z (by simp)
    have fb := hf b (by simp)
    have fi := hf i (by simp)
    have fj := hf j (by simp)
    have hT : s.TypeIs (.ref z) "zip" := ⟨_, hz, rfl⟩
    unfold pyNext
    refine wpAny_bind (wpAny_attempt (wpAny_callSpecial?_slot (name := Str.ofString "__next__") hT PySem.F.slot_zip_next (wpAny_call_entry PySem.F.slot_zip_next hT PySem.F.entry_zip_next
      (zt_item D ⟨sqT_ne I q1 fz, sqT_ne I q1 fb, sqT_ne I q1 fi, sqT_ne I q1 fj⟩ ⟨sqT_ne I q2 fz, sqT_ne I q2 fb, sqT_ne I q2 fi, sqT_ne I q2 fj⟩ hz ha hb h1 h2 g1 g2 (by simpa using hu1) (by simpa using hu2) fun g a1 a2 a3 a4 a5 a6 => wpAny_pure ?_) (PySem.F.args_zip_next_1 _))))
    refine ⟨_, rfl, wpAny_letOwnedTupleGo_zip a1 fun g' z' m' => ?_⟩
    have zT : z ≠ s.heap.objs.size := Nat.ne_of_lt (Heap.lt_size hz)
    have up : ∀ c o, c ≠ z → g.get? c = some o → g'.get? c = some o := fun c o hc e => m'.extBut c o hc e
    have fr : H s.heap.objs.size = none := I.hok.fresh (Nat.le_refl _)
    have I1 : Inv X pins σ (upd H s.heap.objs.size (.tup [x, y])) { s with heap := g' } := by
      refine I.newTup (t' := s.toks) [z, b, i, j] (fun c hc => ?_) (fun c o hc e => ?_) (Nat.le_refl _) ⟨[u1, u2], .cons v1 (.cons v2 .nil), _, up _ _ zT.symm a5, rfl, rfl, _, rfl⟩
      · simp only [List.mem_cons, List.not_mem_nil, or_false] at hc
        rcases hc with rfl | rfl | rfl | rfl
        · exact fz
        · exact fb
        · exact fi
        · exact fj
      · simp only [List.mem_cons, List.not_mem_nil, or_false, not_or] at hc
        exact up c o hc.1 (a6 c o hc.1 hc.2.1 hc.2.2.1 hc.2.2.2 e)
    obtain ⟨oi, ei, ri⟩ := a3
    obtain ⟨oj, ej, rj⟩ := a4
    refine ⟨.ref s.heap.objs.size, _, I1, rfl, ⟨_, rfl, fr, fun xs' ys' x' y' s1 s2 e1 e2 => ?_⟩, ⟨z', up _ _ D.az (a6 a _ D.az D.ab D.ai D.aj ha), ⟨_, _, up _ _ D.bz a2⟩, ⟨oi, up _ _ D.iz ei, ri⟩, ⟨oj, up _ _ D.jz ej, rj⟩⟩, fun c hc => ?_⟩
    · rw [I.tuple_inj s1 q1, hx] at e1
      rw [I.tuple_inj s2 q2, hy] at e2
      cases e1
      cases e2
      rfl
    · have fc := hf c hc
      have : c ≠ s.heap.objs.size := by
        simp only [List.mem_cons, List.not_mem_nil, or_false] at hc
        obtain ⟨oi', ei', _⟩ := h1
        obtain ⟨oj', ej', _⟩ := h2
        rcases hc with rfl | rfl | rfl | rfl | rfl
        · exact zT
        · exact Nat.ne_of_lt (Heap.lt_size ha)
        · exact Nat.ne_of_lt (Heap.lt_size hb)
        · exact Nat.ne_of_lt (Heap.lt_size ei')
        · exact Nat.ne_of_lt (Heap.lt_size ej')
      rw [upd_ne this]
      exact fc.1
  done := by
    intro X hP hw hK hc k pins s σ H E I hf st hg
    subst hP hw hK
    obtain ⟨xs, ys, q1, q2, hend⟩ := hg
    obtain ⟨hz, ha, ⟨p, q, hb⟩, h1, h2⟩ := st
    obtain ⟨its1, r1, g1, _⟩ := I.tuple q1
    obtain ⟨its2, r2, g2, _⟩ := I.tuple q2
    have l1 := r1.length
    have l2 := r2.length
    have fz := hf z (by simp)
    have fb := hf b (by simp)
    have fi := hf i (by simp)
    have fj := hf j (by simp)
    have hT : s.TypeIs (.ref z) "zip" := ⟨_, hz, rfl⟩
    unfold pyNext
    refine wpAny_bind (wpAny_attempt (wpAny_callSpecial?_slot (name := Str.ofString "__next__") hT PySem.F.slot_zip_next (wpAny_call_entry PySem.F.slot_zip_next hT PySem.F.entry_zip_next
      (zt_end (I.ok.hd hc) D ⟨sqT_ne I q1 fz, sqT_ne I q1 fb, sqT_ne I q1 fi, sqT_ne I q1 fj⟩ ⟨sqT_ne I q2 fz, sqT_ne I q2 fb, sqT_ne I q2 fi, sqT_ne I q2 fj⟩ hz ha hb h1 h2 g1 g2 ?_ fun g e kp he => ?_) (PySem.F.args_zip_next_1 _))))
    · rcases hend with u | u
      · exact .inl (by simp; omega)
      · exact .inr (by simp; omega)
    · obtain ⟨o, ho, hcl⟩ := he
      refine wpAny_bind (wpAny_isInstance (T := "StopIteration") (b := true) ⟨o, ho, hcl⟩ isSubtype_stop ?_)
      refine wpAny_pure ⟨rfl, I.turnedN (t' := s.toks) [z, b, i, j] (fun c hc => ?_) (fun c o hc e => ?_)⟩
      · simp only [List.mem_cons, List.not_mem_nil, or_false] at hc
        rcases hc with rfl | rfl | rfl | rfl
        · exact fz
        · exact fb
        · exact fi
        · exact fj
      · simp only [List.mem_cons, List.not_mem_nil, or_false, not_or] at hc
        exact kp c o hc.1 hc.2.1 hc.2.2.1 hc.2.2.2 e
  self := fun _ _ _ _ _ st h => wpAny_pyIter_zip st.1 h
end L2
set_option Elab.async false
set_option linter.all false
set_option maxRecDepth 100000
set_option exponentiation.threshold 2000
namespace L2
open PySem PySem.Spec PyProof.Rows
abbrev zw1 (h : Heap) (t : Addr) : Heap := h.push { cls := .type "tuple_iterator", data := .fields #[.ref t, .int 0 0] }
abbrev zw2 (h : Heap) (t u : Addr) : Heap := (zw1 h t).push { cls := .type "tuple_iterator", data := .fields #[.ref u, .int 0 0] }
abbrev zw3 (h : Heap) (t u : Addr) : Heap := (zw2 h t u).push { cls := .type "tuple", data := .seq #[.ref h.objs.size, .ref (zw1 h t).objs.size] }
abbrev zw4 (h : Heap) (t u : Addr) : Heap := (zw3 h t u).push { cls := .type "tuple", data := .seq #[.none, .none] }
abbrev zw5 (h : Heap) (t u : Addr) : Heap := (zw4 h t u).push { cls := .type "zip", data := .fields #[.none, .bool false, .bool false, .ref (zw2 h t u).objs.size, .ref (zw3 h t u).objs.size] }
theorem zt_new (t u : Addr) (xs ys : Array Value) : Meets (Builtin.«zip.__new__» ⟨[.type "zip", .ref t, .ref u], []⟩) (fun _ R s => s.heap.IsTuple t xs ∧ s.heap.IsTuple u ys ∧
      R (.ok (.ret (.ref (zw4 s.heap t u).objs.size))) { s with heap := zw5 s.heap t u }) :=
  .of_wp fun prog w A R s h => by
    obtain ⟨hp, g, d, tk, os⟩ := s; obtain ⟨g1, g2, h⟩ := h
    have f0 := sub_zip
    have f1 : Heap.IsTuple (Shared.heap ⟨hp, g, d, tk, os⟩) t xs := g1
    have f2 : Heap.IsTuple (Shared.heap ⟨hp.push { cls := .type "tuple_iterator", data := .fields #[.ref t, .int 0 0] }, g, d, tk, os⟩) u ys := Heap.IsTuple.push g2 _
    wp_walk using wpAny_pyIter_tuple f1, wpAny_pyIter_tuple f2
    exact ⟨_, rfl, h⟩
theorem bt_zip : bootBuiltins "zip" = some (.type "zip") := by decide +kernel
section
variable {X : Cx}
def iZip (K : PySem.W.Frag) (ta : TA) : TI := fun σ H R => ta σ H fun vs H1 => ∃ t u, vs = [.ref t, .ref u] ∧ (∃ xs, SqT K H1 t xs) ∧ (∃ ys, SqT K H1 u ys) ∧ R (Itz K t u) H1
theorem pi_zip {es : List Expr} {kk : Nat} {tpos : Pos} {a b : Expr} {ta : TA} {p pos : Pos} (hg : Gl X "zip") (hm : X.mg "zip" = none) (ha : PA X [a, b] ta)
    (he : starEach [a, b] X.env = (false, eval a X.env) :: starEach [b] X.env := by rfl) (hpl : (backTo pos (starEach [b] X.env)).any (·.1) = false := by rfl) :
    PI X (.Tuple es kk tpos) (.Call (.Name "zip" p) [a, b] [] pos) (iZip X.K ta) := by
  intro pins s σ H R I h
  refine wpAny_Call_Name_kw (ld_blt I hg hm bt_zip ?_ (by decide) (by decide))
  refine PyProof.Rows.callWith_type1 (thn (ha pos pins s σ H _ I h) fun us s1 ⟨vs, H1, I1, r1, t, u, e, ⟨xs, q1⟩, ⟨ys, q2⟩, q⟩ => ?_) he hpl
  subst e
  obtain ⟨u1, u2, rfl, v1, v2⟩ := vals2 r1
  cases v1
  cases v2
  obtain ⟨its1, rv1, g1, _⟩ := I1.tuple q1
  obtain ⟨its2, rv2, g2, _⟩ := I1.tuple q2
  refine callType_new PySem.F.called_zip (by decide) (PySem.F.typeCall_zip_2 _ _) (PySem.F.newCall_zip_2 _ _) (fun obj => PySem.F.args_object_init_3 obj _ _) PySem.F.entry_zip_new (zt_new t u its1.toArray its2.toArray) ⟨g1, g2, ?_⟩
  have y1 : (zw1 s1.heap t).objs.size = s1.heap.objs.size + 1 := Heap.size_push ..
  have y2 : (zw2 s1.heap t u).objs.size = s1.heap.objs.size + 2 := by rw [Heap.size_push, y1]
  have y3 : (zw3 s1.heap t u).objs.size = s1.heap.objs.size + 3 := by rw [Heap.size_push, y2]
  have y4 : (zw4 s1.heap t u).objs.size = s1.heap.objs.size + 4 := by rw [Heap.size_push, y3]
  have k5 : ∀ c o, s1.heap.get? c = some o → (zw5 s1.heap t u).get? c = some o := fun c o e => Heap.get?_push_of_some _ (Heap.get?_push_of_some _ (Heap.get?_push_of_some _ (Heap.get?_push_of_some _ (Heap.get?_push_of_some _ e))))
  have e5 : (zw5 s1.heap t u).get? (zw4 s1.heap t u).objs.size = some _ := Heap.get?_push_size _ rfl
  have e4 : (zw5 s1.heap t u).get? (zw3 s1.heap t u).objs.size = some _ := Heap.get?_push_of_some _ (Heap.get?_push_size _ rfl)
  have e3 : (zw5 s1.heap t u).get? (zw2 s1.heap t u).objs.size = some _ := Heap.get?_push_of_some _ (Heap.get?_push_of_some _ (Heap.get?_push_size _ rfl))
  have e2 : (zw5 s1.heap t u).get? (zw1 s1.heap t).objs.size = some _ := Heap.get?_push_of_some _ (Heap.get?_push_of_some _ (Heap.get?_push_of_some _ (Heap.get?_push_size _ rfl)))
  have e1 : (zw5 s1.heap t u).get? s1.heap.objs.size = some _ := Heap.get?_push_of_some _ (Heap.get?_push_of_some _ (Heap.get?_push_of_some _ (Heap.get?_push_of_some _ (Heap.get?_push_size _ rfl))))
  have I2 : Inv X pins σ H1 { s1 with heap := zw5 s1.heap t u } := I1.kept (t' := s1.toks) k5
  have fp : ∀ c, s1.heap.objs.size ≤ c → FpOk X pins H1 c := fun c hc => I1.fpOk hc (I1.hok.fresh hc)
  have D : ZA (zw4 s1.heap t u).objs.size (zw2 s1.heap t u).objs.size (zw3 s1.heap t u).objs.size s1.heap.objs.size (zw1 s1.heap t).objs.size := by
    have n4 : (zw3 s1.heap t u).objs.size < (zw4 s1.heap t u).objs.size := by rw [y3, y4]; exact Nat.lt_succ_self _
    have n3 : (zw2 s1.heap t u).objs.size < (zw3 s1.heap t u).objs.size := by rw [y2, y3]; exact Nat.lt_succ_self _
    have n2 : (zw1 s1.heap t).objs.size < (zw2 s1.heap t u).objs.size := by rw [y1, y2]; exact Nat.lt_succ_self _
    have n1 : s1.heap.objs.size < (zw1 s1.heap t).objs.size := by rw [y1]; exact Nat.lt_succ_self _
    exact ⟨Nat.ne_of_lt (Nat.lt_trans n3 n4), Nat.ne_of_lt n4, Nat.ne_of_lt (Nat.lt_trans n1 (Nat.lt_trans n2 (Nat.lt_trans n3 n4))), Nat.ne_of_lt (Nat.lt_trans n2 (Nat.lt_trans n3 n4)), Nat.ne_of_lt n3, Nat.ne_of_gt (Nat.lt_trans n1 n2), Nat.ne_of_gt n2,
      Nat.ne_of_gt (Nat.lt_trans n1 (Nat.lt_trans n2 n3)), Nat.ne_of_gt (Nat.lt_trans n2 n3), Nat.ne_of_lt n1⟩
  refine ⟨⟨_, e5, rfl⟩, wpAny_pyIter_zip e5 ?_⟩
  refine ⟨_, _, _, _, H1, rfl, I2, turn_zip t u _ _ _ _ _ D, ⟨e5, e3, ⟨_, _, e4⟩, ⟨_, e1, rfl, rfl⟩, ⟨_, e2, rfl, rfl⟩⟩, fun c hc => fp c ?_, q⟩
  simp only [List.mem_cons, List.not_mem_nil, or_false] at hc
  rcases hc with rfl | rfl | rfl | rfl | rfl
  · rw [y4]; exact Nat.le_add_right _ _
  · rw [y2]; exact Nat.le_add_right _ _
  · rw [y3]; exact Nat.le_add_right _ _
  · exact Nat.le_refl _
  · rw [y1]; exact Nat.le_add_right _ _
end
end L2
set_option Elab.async false
set_option linter.all false
set_option maxRecDepth 100000
set_option exponentiation.threshold 2000
namespace L2
open PySem PySem.Spec PyProof.Rows
section
variable {X : Cx} {tg iter kx vx : Expr} {ifs : List Expr} {wi : TI} {js : Cap} {g : TG} {tc : TT} {tk tv : TE} {N' : List Str} {scope : Scope} {pos : Pos}
end
end L2
set_option Elab.async false
set_option linter.all false
set_option maxRecDepth 100000
set_option exponentiation.threshold 2000
namespace L2
open PySem PySem.Spec PyProof.Rows
section
variable {prog : Program} {w : World} {A : Around} {E : Value → Shared → Prop} {s : Shared}
theorem cut_whole {t sl : Addr} {items : Array Value} {vl vu : Value} {lo hi : Option Int} {Q : Value → Shared → Prop} (ht : IsTup s.heap t items) (hs : s.heap.IsSliceOf sl vl vu .none) (pl : IsPart vl lo) (pu : IsPart vu hi)
    (h0 : HT.sIx items.size 0 lo = 0) (h1 : HT.sIx items.size items.size hi = items.size) (h : Q (.ref t) s) : wpAny (model prog w) A (getItem (.ref t) (.ref sl)) Q E s := by
  obtain ⟨os, hos, hcs, hds⟩ := id hs
  have hTs : s.TypeIs (.ref sl) "slice" := ⟨os, hos, hcs⟩
  unfold getItem
  try with_reducible refine wpAny_holding ?_
  first | refine wpAny_bind (wpAny_pure ?_) | skip
  refine wpAny_bind (wpAny_sequenceKey ht.typeIs (by decide) ?_)
  refine wpAny_bind (wpAny_callSpecial?_slot (name := Str.ofString "__getitem__") ht.typeIs PyProof.Rows.slot_tuple_getitem
    (wpAny_call_entry PyProof.Rows.slot_tuple_getitem ht.typeIs PySem.F.entry_tuple_getitem ?_ (PySem.F.args_tuple_getitem_2 _ _)))
  show wpAny _ _ (Builtin.Tuple.tupleItemsOf (.ref t) >>= _) _ _ s
  refine wpAny_bind (tupleItemsOf_ ht ?_)
  refine wpAny_bind (wpAny_typeOf hTs ?_)
  rw [if_pos (by decide)]
  refine wpAny_bind (HT.sliceApplied_gen hs pl pu ?_)
  have yes : ((((HT.sIx items.size 0 lo : Nat) : Int) == 0 && (1 : Int) == 1 && (HT.sIx items.size items.size hi - HT.sIx items.size 0 lo) == items.size) = true) := by
    rw [h0, h1]
    simp
  show wpAny _ _ (if (((HT.sIx items.size 0 lo : Nat) : Int) == 0 && (1 : Int) == 1 && (HT.sIx items.size items.size hi - HT.sIx items.size 0 lo) == items.size) = true then _ else _) _ _ s
  rw [if_pos yes]
  unfold Builtin.Tuple.tupleIsExact
  refine wpAny_bind (wpAny_bind (wpAny_typeOf ht.typeIs (wpAny_pure ?_)))
  rw [if_pos (by decide)]
  exact wpAny_bind (wpAny_rule (wpAny_pure ⟨_, rfl, wpAny_pure h⟩))
end
section
variable {X : Cx}
def rSlW (K : PySem.W.Frag) : V → Option Int → Option Int → Hp → VK → Prop := fun x lo hi H Q => ∃ a xs, x = .ref a ∧ SqT K H a xs ∧
  (HT.sIx xs.length 0 lo = 0 ∧ HT.sIx xs.length xs.length hi = xs.length → Q (.ref a) H) ∧
  (¬ (HT.sIx xs.length 0 lo = 0 ∧ HT.sIx xs.length xs.length hi = xs.length) → ∀ p, H p = none → Q (.ref p) (upd H p (.tup (cutV xs lo hi))))
theorem sl_tupW : SlR X (rSlW X.K) := by
  intro pins s σ H x v vl vu lo hi sl Q I rx hs pl pu h
  obtain ⟨a, xs, rfl, hx, q1, q2⟩ := h
  by_cases hw : HT.sIx xs.length 0 lo = 0 ∧ HT.sIx xs.length xs.length hi = xs.length
  · cases rx
    obtain ⟨its, r, ht, hz⟩ := I.tuple hx
    have hlen : its.toArray.size = xs.length := by rw [List.size_toArray]; exact r.length.symm
    refine ⟨"tuple", _, PyProof.Rows.slot_tuple_getitem.lookup, ht.typeIs, ?_⟩
    exact cut_whole ht hs pl pu (by rw [hlen]; exact hw.1) (by rw [hlen]; exact hw.2) ⟨.ref a, H, I, rfl, q1 hw⟩
  · exact sl_tup pins s σ H (.ref a) v vl vu lo hi sl Q I rx hs pl pu ⟨a, xs, rfl, hx, hw, q2 hw⟩
theorem sl_tail {K : PySem.W.Frag} {H : Hp} {a : Addr} {xs : List V} {Q : VK} (h : SqT K H a xs) (q : ∀ p H', Same H H' → SqT K H' p (xs.drop 1) → Q (.ref p) H') : rSlW K (.ref a) (some 1) none H Q := by
  have e0 : HT.sIx xs.length 0 (some 1) = min 1 xs.length := HT.sIx_nat _ _ 1
  refine ⟨a, xs, rfl, h, fun hw => ?_, fun hw p hp => ?_⟩
  · rw [e0] at hw
    have hl : xs.length = 0 := by omega
    have hx : xs = [] := List.length_eq_zero_iff.mp hl
    subst hx
    exact q a H (Same.refl _) h
  · refine q p _ (same_new hp _) (SqT.of ?_)
    rw [upd_same]
    unfold cutV
    rw [e0, show HT.sIx xs.length xs.length none = xs.length from rfl]
    cases xs with
    | nil => rfl
    | cons x r =>
      have e1 : min 1 (x :: r).length = 1 := by rw [List.length_cons]; omega
      rw [e1]
      congr 2
      rw [List.length_cons, Nat.add_sub_cancel]
      exact List.take_of_length_le (by simp)
end
end L2
set_option Elab.async false
set_option linter.all false
set_option maxRecDepth 100000
set_option exponentiation.threshold 2000
namespace L2
open PySem PySem.Spec PyProof.Rows
section
variable {X : Cx} {K : PySem.W.Frag}
theorem ix_tupK (K : PySem.W.Frag) (h : X.K = K) : IxR X (rIxT K) := by subst h; exact ix_tup
theorem pg_tupK (K : PySem.W.Frag) (h : X.K = K) {es : List Expr} {k : Nat} {t : TGs} {n : Nat} {pos : Pos} (hc : X.calm = true) (hg : PGs X es t)
    (hn : (assignEach es X.env).length = n := by rfl) (hst : (assignEach es X.env).findIdx? (·.1) = none := by rfl) : PG X (.Tuple es k pos) (gTup K n t) := by subst h; exact pg_tup hc hg hn hst
end
theorem lc_zip {K : PySem.W.Frag} {t1 t2 p : Addr} {xs ys : List V} {g : TG} {tc : TT} {te : TE} {σ : St} {H : Hp} {Q : VK} {js : Cap} {n : Nat} (h1 : n ≤ xs.length) (h2 : n ≤ ys.length) (h3 : xs.length ≤ n ∨ ys.length ≤ n) (Pv : Nat → St → List V → Hp → Prop) (h0 : Pv 0 (inn js σ) [] (upd H p (.lst [])))
    (hl : ∀ i σ zs H, i ≤ n → Pv i σ zs H → SqT K H t1 xs ∧ SqT K H t2 ys ∧ H p = some (.lst zs) ∧ zs.length < sizeLine)
    (hs : ∀ (i : Nat) x y σ zs H q (N : St → List V → Hp → Prop), xs[i]? = some x → ys[i]? = some y → H q = none → Pv i σ zs H → (∀ σ' ys' H', Pv (i + 1) σ' ys' H' → N σ' ys' H') → LcTurn p g tc te zs (.ref q) σ (upd H q (.tup [x, y])) N)
    (hd : ∀ σ zs H, Pv n σ zs H → Q (.ref p) H) : LcGoal (Itz K t1 t2) p js g tc te σ H Q :=
  lc_gen (n := n) (J := Itz K t1 t2) (js := js) (σ := σ) (H := H) (p := p) (Q := Q) (g := g) (tc := tc) (te := te) Pv h0 (fun i σ zs H hi pv => (hl i σ zs H hi pv).2.2)
    (fun i σ zs H hi pv => ⟨xs, ys, xs[i], ys[i], (hl i σ zs H (Nat.le_of_lt hi) pv).1, (hl i σ zs H (Nat.le_of_lt hi) pv).2.1, by simp, by simp⟩)
    (fun σ zs H pv => ⟨xs, ys, (hl _ σ zs H (Nat.le_refl _) pv).1, (hl _ σ zs H (Nat.le_refl _) pv).2.1, h3⟩)
    (fun i v σ zs H H' N hi y pv hN => by
      obtain ⟨q, e, hq, y⟩ := y
      subst e
      have ex : xs[i]? = some xs[i] := by simp
      have ey : ys[i]? = some ys[i] := by simp
      have e2 := y xs ys _ _ (hl i σ zs H (Nat.le_of_lt hi) pv).1 (hl i σ zs H (Nat.le_of_lt hi) pv).2.1 ex ey
      subst e2
      exact hs i _ _ σ zs H q N ex ey hq pv hN) hd
end L2
set_option Elab.async false
set_option linter.all false
set_option maxRecDepth 100000
set_option exponentiation.threshold 2000
namespace L2
open PySem PySem.Spec PyProof.Rows
theorem lk_tuple_keys : typeLookup (.type "tuple") "keys" = pure none := by rw [typeLookup_type, builtinLookup_eq_fast]; kernel_rfl
set_option maxHeartbeats 4000000 in
theorem tup_no_keys {prog : Program} {w : World} {A : Around} {E : Value → Shared → Prop} {a : Addr} {its : Array Value} {n : Nat} {sl : Array (Option Value)} {h : Heap} {g d t os} {Q : Option Value → Shared → Prop}
    (hh : A.handled = none) (hx : h.get? a = some { cls := .type "tuple", dict := none, data := .seq its n, slots := sl })
    (q : ∀ h' tk, (∀ b o, h.get? b = some o → h'.get? b = some o) → Q none ⟨h', g, d, tk, os⟩) : wpAny (model prog w) A (getAttr? (.ref a) "keys") Q E ⟨h, g, d, t, os⟩ := by
  have y0 : ∀ tk', (⟨h, g, d, tk', os⟩ : Shared).TypeIs (.ref a) "tuple" := fun _ => ⟨_, hx, rfl⟩
  have y1 := sub_AttributeError
  have y2 := F.slot_tuple_getattribute.lookup
  have y3 := F.slot_tuple_getattribute.bind (.ref a)
  have y4 := am_tuple_getattr_none
  unfold getAttr? getAttrBy? getAttrBy
  repeat (any_goals (first
    | assumption
    | exact y0 _
    | ((with_reducible show wpAny _ _ (call (Value.builtin "tuple.__getattribute__") _ _) _ _ _)
       refine call_meets F.slot_tuple_getattribute (y0 _) am_entry_tuple_getattribute (F.args_tuple_getattribute_2 _ _) (meets_getattribute_miss_tuple a its n sl "keys" _ lk_tuple_keys (by decide +kernel)) ⟨hx, hh, fun h' tk' e hx' => ?_⟩)
    | wp_step))
  obtain ⟨t', u', he⟩ := hx'.there
  show wpAny _ _ (getattributeRaised _ _ _ _ _ _ _) _ _ _
  unfold getattributeRaised
  repeat (any_goals (first | assumption | wp_step))
  exact q _ _ hx'.keeps
section
variable {prog : Program} {w : World} {A : Around} {E : Value → Shared → Prop} {s : Shared}
end
end L2
namespace L2
open PySem PySem.Spec PyProof.Rows
section
variable {X : Cx}
end
end L2
set_option Elab.async false
set_option linter.all false
set_option maxRecDepth 100000
set_option exponentiation.threshold 2000
namespace L2
open PySem PySem.Spec PyProof.Rows
section
variable {X : Cx} {pins : List (Addr × Obj)} {σ : St} {H : Hp} {s : Shared} {h' : Heap}
end
section
variable {X : Cx}
end
end L2
set_option Elab.async false
set_option linter.all false
set_option maxRecDepth 100000
set_option exponentiation.threshold 2000
namespace L2
open PySem PySem.Spec PyProof.Rows
section
variable {X : Cx} {e : Expr} {te : TE} {pos p2 p3 p4 : Pos} {n : Nat}
end
def unlike (ns : List Int) : Nat := (ns.foldl step_dedup []).length
section
variable {X : Cx} {e : Expr} {te : TE} {pos p2 p3 p4 : Pos}
end
section
variable {X : Cx}
end
end L2
set_option linter.all false
namespace WB
end WB
set_option Elab.async false
set_option linter.all false
set_option maxRecDepth 100000
set_option exponentiation.threshold 2000
namespace L2
open PySem PySem.Spec PyProof.Rows
section
variable {X : Cx}
def CMulB (i j : Int) : Prop := i.natAbs < 2 ^ 1000 ∧ j.natAbs < 2 ^ 1000
end
section
variable {K : PySem.W.Frag} {H : Hp} {Q : VK}
end
end L2
set_option Elab.async false
set_option linter.all false
set_option maxRecDepth 100000
set_option exponentiation.threshold 2000
namespace L2
open PySem PySem.Spec PyProof.Rows
theorem nb {i : Int} (h0 : 0 ≤ i) (h1 : i < 2 ^ 400) : i.natAbs < 2 ^ 1000 := by
  have : i.natAbs < 2 ^ 400 := by omega
  exact Nat.lt_of_lt_of_le this (by decide)
theorem stir {y z : Int} (y0 : 0 ≤ y) (y1 : y < 10 ^ 41) (z0 : 0 ≤ z) (z1 : z ≤ 2 ^ 31) :
    CMulB 30011 z ∧ CMulB (y + 1) (30011 * z + 7) ∧ CMulB 104729 z ∧ CMulB (104729 * z) z ∧ 0 ≤ (y + 1) * (30011 * z + 7) + 104729 * z * z ∧ (y + 1) * (30011 * z + 7) + 104729 * z * z < 2 ^ 400 := by
  have a0 : 0 ≤ 30011 * z + 7 := by omega
  have a1 : 30011 * z + 7 ≤ 2 ^ 50 := by omega
  have a2 : (y + 1) * (30011 * z + 7) ≤ (10 ^ 41) * 2 ^ 50 := Int.mul_le_mul (by omega) a1 a0 (by decide)
  have a3 : 0 ≤ (y + 1) * (30011 * z + 7) := Int.mul_nonneg (by omega) a0
  have b0 : 0 ≤ 104729 * z := by omega
  have b1 : 104729 * z ≤ 2 ^ 50 := by omega
  have b2 : 104729 * z * z ≤ 2 ^ 50 * 2 ^ 31 := Int.mul_le_mul b1 z1 z0 (by decide)
  have b3 : 0 ≤ 104729 * z * z := Int.mul_nonneg b0 z0
  refine ⟨⟨by decide, nb z0 (by omega)⟩, ⟨nb (by omega) (by omega), nb a0 (by omega)⟩, ⟨by decide, nb z0 (by omega)⟩, ⟨nb b0 (by omega), nb z0 (by omega)⟩, by omega, by omega⟩
def spLaw (K : PySem.W.Frag) : Sp := fun vs H Q _ => ∃ (a : Addr) (ns : List Int), vs = [.ref a] ∧ SqL K H a (ns.map V.int) ∧ ns.length ≤ 63 ∧ ∀ H', Q (.bl true) H'
theorem upd_off {H H0 : Hp} {p : Addr} {o : HO} (s : Same H0 H) (n : H0 p = none) : Same H0 (upd H p o) := fun a u e => by
  rw [upd_ne (ne_of_none e n)]
  exact s _ _ e
end L2
set_option Elab.async false
set_option linter.all false
set_option maxRecDepth 100000
set_option exponentiation.threshold 2000
namespace L2
open PySem PySem.Spec PyProof.Rows
section
variable {X : Cx} {pos : Pos}
end
end L2
set_option linter.all false
namespace WB
end WB
set_option linter.all false
namespace WB
end WB
set_option Elab.async false
set_option linter.all false
set_option maxRecDepth 100000
set_option exponentiation.threshold 2000
namespace L2
open PySem PySem.Spec PyProof.Rows
end L2
set_option Elab.async false
set_option linter.all false
set_option maxRecDepth 100000
set_option exponentiation.threshold 2000
namespace L2
open PySem PySem.Spec PyProof.Rows
section
variable {X : Cx}
variable {e : Expr} {te : TE} {pos p2 p3 p4 : Pos}
end
end L2
set_option linter.all false
namespace WB
end WB
set_option Elab.async false
set_option linter.all false
set_option maxRecDepth 100000
set_option exponentiation.threshold 2000
namespace L2
open PySem PySem.Spec PyProof.Rows
end L2
set_option Elab.async false
set_option linter.all false
set_option maxRecDepth 100000
set_option exponentiation.threshold 2000
namespace L2
open PySem PySem.Spec PyProof.Rows
theorem strs_of : ∀ {ts : List Str} {us : List Value}, Vals (ts.map V.str) us → ∃ l : List (Str × Tok), strValues l = us ∧ l.map (·.1) = ts
  | [], _, h => by cases h; exact ⟨[], rfl, rfl⟩
  | x :: ts, _, h => by
    rw [List.map_cons] at h
    cases h with
    | cons r h =>
      obtain ⟨t, rfl⟩ := r
      obtain ⟨l, h1, h2⟩ := strs_of h
      exact ⟨(x, t) :: l, by rw [← h1]; rfl, by rw [← h2]; rfl⟩
theorem strsAre_of : ∀ {ts : List Str} {us : List Value}, Vals (ts.map V.str) us → StrsAre us ts
  | [], _, h => by cases h; exact .nil
  | x :: ts, _, h => by
    rw [List.map_cons] at h
    cases h with
    | cons r h =>
      obtain ⟨t, rfl⟩ := r
      exact .cons _ _ (strsAre_of h)
theorem vals_of_strs : ∀ {us : List Value} {ts : List Str}, StrsAre us ts → Vals (ts.map V.str) us
  | _, _, .nil => .nil
  | _, _, .cons n t h => .cons ⟨t, rfl⟩ (vals_of_strs h)
section
variable {X : Cx}
def rJoin (K : PySem.W.Frag) : V → List V → Hp → VK → Prop := fun x vs H Q => ∃ (y : Str) (a : Addr) (ts : List Str), x = .str y ∧ vs = [.ref a] ∧ SqL K H a (ts.map V.str) ∧ JoinOk y ts = true ∧ Q (.str (Txt.join y ts)) H
theorem mt_join : MtM X "str.join" (rJoin X.K) := by
  intro pins s σ H x vs v us Q I rx rv h
  obtain ⟨y, a, ts, rfl, rfl, hq, hok, q⟩ := h
  obtain ⟨t, rfl⟩ := rx
  obtain ⟨u, rfl, ru⟩ := rv.one
  cases ru
  obtain ⟨its, r, ht, hz⟩ := I.list hq
  obtain ⟨l, rfl, rfl⟩ := strs_of r
  unfold JoinOk at hok
  rw [Bool.not_eq_true'] at hok
  refine call_meets F.slot_str_join (typeIs_str _ _ _) F.entry_str_join (F.args_str_join_2 _ _) (meets_str_join_list y t a l hok) ⟨ht.isList, post_join l ⟨joinFit_length hok, fun t' k => ?_⟩⟩
  exact ⟨.str _, H, I.kept (t' := k) fun b o e => e, ⟨t', rfl⟩, q⟩
end
end L2
set_option Elab.async false
set_option linter.all false
set_option maxRecDepth 100000
set_option exponentiation.threshold 2000
namespace L2
open PySem PySem.Spec PyProof.Rows
theorem or_led (t : SetTable) (n : Nat) : (t.orStandIn n).led = t.led := by unfold SetTable.orStandIn; split <;> rfl
theorem or_plain (t : SetTable) (n : Nat) (h : t.plain = false) : (t.orStandIn n).plain = false := by
  unfold SetTable.orStandIn
  split
  · exact h
  · rfl
theorem lay_led (t : SetTable) (es : Array (Int × Value)) (h : Int) (x : Value) : (layNew t es h x).2.1.led = t.led := by
  unfold layNew
  split
  · exact (or_led _ _).trans rfl
  · rfl
theorem lay_plain (t : SetTable) (es : Array (Int × Value)) (h : Int) (x : Value) : t.plain = false → (layNew t es h x).2.1.plain = false := by
  intro hp
  unfold layNew
  split
  · exact or_plain _ _ hp
  · rfl
theorem laid_of {mask finger moves : Nat} {led plain : Bool} {hs : Array Int} {t : SetTable} {o : Array Nat} (h : SetTable.laid mask finger moves led plain hs = some (t, o)) : t.led = led ∧ t.plain = plain := by
  unfold SetTable.laid at h
  cases h1 : SetTable.layClean mask hs with
  | none => rw [h1] at h; cases h
  | some ow =>
    rw [h1] at h
    simp only [Option.bind_eq_bind, Option.bind_some, Option.pure_def, Option.some.injEq, Prod.mk.injEq] at h
    rw [← h.1]
    exact ⟨rfl, rfl⟩
theorem relay_led (t : SetTable) (es : Array (Int × Value)) (n : Nat) : (relayAll t es n).2.1.led = t.led := by
  unfold relayAll
  split
  · rename_i t' o h
    dsimp only
    split
    · exact (laid_of h).1
    · rfl
  · rfl
theorem relay_plain (t : SetTable) (es : Array (Int × Value)) (n : Nat) (hp : t.plain = false) : (relayAll t es n).2.1.plain = false := by
  unfold relayAll
  split
  · rename_i t' o h
    dsimp only
    split
    · rw [← hp]; exact (laid_of h).2
    · rfl
  · rfl
def byTx (w : World) : Bool := w.params.followText "set-order"
structure TxSet (prog : Program) (w : World) (h : Heap) (a : Addr) (ks : List Str) : Prop where
  at' : ∃ (es : Array (Int × Value)) (ep : Nat) (t : SetTable), h.get? a = some { cls := .type "set", dict := none, data := .set es ep t } ∧ ElemsOf (strKind prog w) es.toList ∧
    StrsAre (es.toList.map (·.2)) ks ∧ t.fits es.size = true ∧ t.led = !byTx w ∧ (es.size = 0 ∨ t.plain = false)
  nodup : ks.Nodup
  few : ks.length < scanBound
theorem strsAre_len : ∀ {vs : List Value} {ks : List Str}, StrsAre vs ks → vs.length = ks.length
  | _, _, .nil => rfl
  | _, _, .cons _ _ h => by rw [List.length_cons, List.length_cons, strsAre_len h]
theorem strsAre_app : ∀ {vs us : List Value} {ks js : List Str}, StrsAre vs ks → StrsAre us js → StrsAre (vs ++ us) (ks ++ js)
  | _, _, _, _, .nil, h => h
  | _, _, _, _, .cons _ _ h', h => .cons _ _ (strsAre_app h' h)
theorem strsAre_perm {vs us : List Value} (p : us.Perm vs) : ∀ {ks : List Str}, StrsAre vs ks → ∃ js, StrsAre us js ∧ js.Perm ks := by
  induction p with
  | nil => intro ks h; exact ⟨ks, h, .refl _⟩
  | cons x p ih =>
    intro ks h
    cases h with
    | cons y t h =>
      obtain ⟨js, h1, h2⟩ := ih h
      exact ⟨y :: js, .cons y t h1, h2.cons _⟩
  | swap x y l =>
    intro ks h
    cases h with
    | cons y t h =>
      cases h with
      | cons y2 t2 h => exact ⟨y2 :: y :: _, .cons _ _ (.cons _ _ h), .swap _ _ _⟩
  | trans p1 p2 ih1 ih2 =>
    intro ks h
    obtain ⟨js, h1, h2⟩ := ih2 h
    obtain ⟨is, h3, h4⟩ := ih1 h1
    exact ⟨is, h3, h4.trans h2⟩
theorem strsAre_mem : ∀ {vs : List Value} {ks : List Str}, StrsAre vs ks → ∀ k, k ∈ ks ↔ ∃ t, Value.str k t ∈ vs
  | _, _, .nil, k => by simp
  | _, _, .cons y t h, k => by
    rw [List.mem_cons, strsAre_mem h k]
    constructor
    · rintro (rfl | ⟨u, hu⟩)
      · exact ⟨t, .head _⟩
      · exact ⟨u, .tail _ hu⟩
    · rintro ⟨u, hu⟩
      cases hu with
      | head => exact .inl rfl
      | tail _ hu => exact .inr ⟨u, hu⟩
theorem strK_is {prog : Program} {w : World} (k : Str) (t : Tok) : (strKind prog w).is k (.str k t) = true := by
  show Value.isStrOf k (.str k t) = true
  simp [Value.isStrOf]
theorem put_set (h : Heap) (a : Addr) (es es' : Array (Int × Value)) (ep : Nat) (t t' : SetTable) (ho : h.get? a = some { cls := .type "set", dict := none, data := .set es ep t }) :
    (h.update a (Obj.putSet es' t')).get? a = some { cls := .type "set", dict := none, data := .set es' (ep + 1) t' } := by
  have := Heap.get?_update_self (Obj.putSet es' t') ho (by rw [putSet_of es' t' (o := { cls := .type "set", dict := none, data := .set es ep t }) rfl]; rfl)
  rw [putSet_of es' t' (o := { cls := .type "set", dict := none, data := .set es ep t }) rfl] at this
  exact this
section
variable {prog : Program} {w : World} {A : Around} {E : Value → Shared → Prop} {s : Shared}
theorem tset_add {a : Addr} {ks : List Str} {k : Str} {tk : Tok} {Q : Bool → Shared → Prop} (hS : TxSet prog w s.heap a ks) (hroom : ks.length + 1 < scanBound)
    (h : ∀ h' ks', Heap.SameBut a s.heap h' → TxSet prog w h' a ks' → ks'.length ≤ ks.length + 1 → (∀ x, x ∈ ks' ↔ x ∈ ks ∨ x = k) → ∀ b, Q b { s with heap := h' }) :
    wpAny (model prog w) A (setAddHashed a (.str k tk) ((strKind prog w).hash k)) Q E s := by
  obtain ⟨⟨es, ep, t, ho, hel, hks, hf, hled, hpl⟩, hnd, hfew⟩ := hS
  have hsz : es.size = ks.length := by rw [← strsAre_len hks, List.length_map, Array.length_toList]
  have hb : es.size < scanBound := by rw [hsz]; exact hfew
  have hkey : (strKind prog w).is k (.str k tk) = true := strK_is k tk
  unfold setAddHashed setAddHashedIn
  refine wpAny_holding (wpAny_bind (wpAny_setState_of ho rfl hf ?_))
  dsimp only
  rw [byScan_of (knd := strKind prog w) rfl hb hel]
  simp only [↓reduceIte]
  unfold setAddByScan
  refine wpAny_bind ?_
  refine wpAny_bind (wpAny_rule ?_)
  refine wpAny_bind (wpAny_setScan_of (knd := strKind prog w) hkey ho rfl hf hel ?_)
  have isk : ∀ e ∈ es.toList, (strKind prog w).is k e.2 = true → k ∈ ks := fun e he q => by
    obtain ⟨t', q'⟩ := Value.isStrOf_shape q
    exact (strsAre_mem hks k).mpr ⟨t', by rw [← q']; exact List.mem_map_of_mem he⟩
  cases hr : List.findIdx? (fun e => (strKind prog w).is k e.2) es.toList with
  | some j =>
    dsimp only
    obtain ⟨hj, hpj, _⟩ := List.findIdx?_eq_some_iff_getElem.mp hr
    have hk : k ∈ ks := isk _ (List.getElem_mem hj) hpj
    refine wpAny_pure (wpAny_pure ?_)
    exact h s.heap ks (Heap.SameBut.refl a s.heap) ⟨⟨es, ep, t, ho, hel, hks, hf, hled, hpl⟩, hnd, hfew⟩ (Nat.le_succ _) (fun x => ⟨.inl, fun q => q.elim id fun e => e ▸ hk⟩) _
  | none =>
    dsimp only
    have hk : k ∉ ks := fun hm => by
      obtain ⟨t', ht⟩ := (strsAre_mem hks k).mp hm
      obtain ⟨e, he, q⟩ := List.mem_map.mp ht
      have := List.findIdx?_eq_none_iff.mp hr e he
      rw [q, strK_is] at this
      cases this
    have hgw : ∀ (b : Bool) {s₁ : Shared} {Q' : Unit → Shared → Prop}, Q' () s₁ → wpAny (model prog w) A (match b with | true => rule "set.scan.the-table-gave-way" | false => pure ()) Q' E s₁ :=
      fun b s₁ Q' hq => by cases b <;> first | exact wpAny_pure hq | exact wpAny_rule hq
    have hperm := layNew_perm t es ((strKind prog w).hash k) (.str k tk)
    have hfits := layNew_fits t es ((strKind prog w).hash k) (.str k tk)
    have hl1 := lay_led t es ((strKind prog w).hash k) (.str k tk)
    have hp1 := lay_plain t es ((strKind prog w).hash k) (.str k tk)
    generalize hL : layNew t es ((strKind prog w).hash k) (.str k tk) = L at hperm hfits hl1 hp1 ⊢
    obtain ⟨es1, t1, wasDummy, gave⟩ := L
    dsimp only at hperm hfits hl1 hp1 ⊢
    rw [Array.toList_push] at hperm
    have hel1 : ElemsOf (strKind prog w) es1.toList := (hel.push hkey rfl).perm hperm
    have h0 : StrsAre ((es.toList ++ [((strKind prog w).hash k, Value.str k tk)]).map (·.2)) (ks ++ [k]) := by
      rw [List.map_append]
      exact strsAre_app hks (.cons k tk .nil)
    obtain ⟨k1, hk1, hkp1⟩ := strsAre_perm (hperm.map (·.2)) h0
    have hsz1 : es1.size = ks.length + 1 := by rw [← Array.length_toList, hperm.length_eq, List.length_append, Array.length_toList, hsz]; rfl
    have nd0 : (ks ++ [k]).Nodup := by
      rw [List.nodup_append]
      exact ⟨hnd, by simp, fun x hx y hy => by rw [List.mem_singleton] at hy; subst hy; exact fun e => hk (e ▸ hx)⟩
    have fin : ∀ (h' : Heap) (es2 : Array (Int × Value)) (ep2 : Nat) (t2 : SetTable), Heap.SameBut a s.heap h' → h'.get? a = some { cls := .type "set", dict := none, data := .set es2 ep2 t2 } → es2.toList.Perm es1.toList → t2.fits es2.size = true →
        t2.led = t.led → t2.plain = false → ∀ b, Q b { s with heap := h' } := fun h' es2 ep2 t2 sb ho2 p2 f2 l2 pl2 b => by
      obtain ⟨k2, hk2, hkp2⟩ := strsAre_perm (p2.map (·.2)) hk1
      have hp : k2.Perm (ks ++ [k]) := hkp2.trans hkp1
      have hlen : k2.length = ks.length + 1 := by rw [hp.length_eq, List.length_append]; rfl
      refine h h' k2 sb ⟨⟨es2, ep2, t2, ho2, hel1.perm p2, hk2, f2, l2.trans hled, .inr pl2⟩, hp.nodup_iff.mpr nd0, by omega⟩ (by omega) (fun x => ?_) b
      rw [hp.mem_iff, List.mem_append, List.mem_singleton]
    refine wpAny_bind (hgw _ ?_)
    have tail : ∀ (t2 : SetTable), t2.fits es1.size = true → t2.led = t.led → t2.plain = false → ∀ {R : Option Bool → Shared → Prop}, (∀ h', (∀ b, Q b { s with heap := h' }) → R (some true) { s with heap := h' }) →
        wpAny (model prog w) A (do
          storeSet a es1 t2
          if (!wasDummy && t2.tooFull) = true then do
              (match (relayAll t2 es1 (SetTable.grown es1.size)).2.2 with | true => rule "set.scan.the-table-gave-way" | false => pure ())
              storeSet a (relayAll t2 es1 (SetTable.grown es1.size)).1 (relayAll t2 es1 (SetTable.grown es1.size)).2.1
              pure (some true)
            else pure (some true)) R E s := by
      intro t2 f2 l2 pl2 R hR
      refine wpAny_bind (wpAny_storeSet_of ho rfl ?_ (fits_of_scanBound (by omega)))
      have ho1 := put_set s.heap a es es1 ep t t2 ho
      have sb1 := Heap.SameBut.update s.heap a (Obj.putSet es1 t2)
      split
      · have hp := relayAll_perm t2 es1 (SetTable.grown es1.size)
        have hfr := relayAll_fits t2 es1 (SetTable.grown es1.size)
        have hl2 := relay_led t2 es1 (SetTable.grown es1.size)
        have hp2 := relay_plain t2 es1 (SetTable.grown es1.size) pl2
        generalize hRl : relayAll t2 es1 (SetTable.grown es1.size) = Rl at hp hfr hl2 hp2 ⊢
        obtain ⟨es2, t3, gave2⟩ := Rl
        dsimp only at hp hfr hl2 hp2 ⊢
        have hs2 : es2.size = es1.size := by rw [← Array.length_toList, hp.length_eq, Array.length_toList]
        refine wpAny_bind (hgw _ ?_)
        refine wpAny_bind (wpAny_storeSet_of ho1 rfl ?_ (fits_of_scanBound (by omega)))
        exact wpAny_pure (hR _ (fin _ es2 _ t3 (sb1.trans (Heap.SameBut.update _ a _)) (put_set _ a es1 es2 (ep + 1) t2 t3 ho1) hp hfr (hl2.trans l2) hp2))
      · exact wpAny_pure (hR _ (fin _ es1 _ t2 sb1 ho1 (.refl _) f2 l2 pl2))
    split
    · refine wpAny_bind ?_
      rw [hashByValue_scannable 8 (x := .str k tk) rfl]
      refine wpAny_pure ?_
      exact tail { t1 with plain := false } (SetTable.fits_plain_off hfits) hl1 rfl fun h' q => wpAny_pure (q _)
    · rename_i hnp
      refine wpAny_bind (wpAny_pure ?_)
      simp only [↓reduceIte]
      exact tail t1 hfits hl1 (by simpa using hnp) fun h' q => wpAny_pure (q _)
end
end L2
set_option Elab.async false
set_option linter.all false
set_option maxRecDepth 100000
set_option exponentiation.threshold 2000
namespace L2
open PySem PySem.Spec PyProof.Rows
theorem TxSet.kept {prog : Program} {w : World} {h h' : Heap} {a : Addr} {ks : List Str} (T : TxSet prog w h a ks) (k : ∀ o, h.get? a = some o → h'.get? a = some o) : TxSet prog w h' a ks := by
  obtain ⟨⟨es, ep, t, ho, r⟩, b, c⟩ := T
  exact ⟨⟨es, ep, t, k _ ho, r⟩, b, c⟩
theorem strs_at : ∀ {vs : List Value} {ts : List Str}, StrsAre vs ts → ∀ (i : Nat) (v : Value), vs[i]? = some v → ∃ x t, v = .str x t ∧ ts[i]? = some x
  | _, _, .nil, i, v, h => by simp at h
  | _, _, .cons y t hr, 0, v, h => by simp at h; exact ⟨y, t, h.symm, rfl⟩
  | _, _, .cons y t hr, i + 1, v, h => by
    rw [List.getElem?_cons_succ] at h
    obtain ⟨x, t', e, e2⟩ := strs_at hr i v h
    exact ⟨x, t', e, by rw [List.getElem?_cons_succ]; exact e2⟩
section
variable {prog : Program} {w : World} {A : Around} {R : Result → Shared → Prop} {I : Addr} {fp wr : List Addr} {G : Array GenState → Array GenState → Prop} {P : Nat → Value → Prop} {St : Nat → Shared → Prop}
theorem tset_loop (ts : List Str) (W : WalksS prog w A.in1 I fp wr G ts.length P St) (S : Addr) (hSf : S ∉ fp)
    (hval : ∀ i v, P i v → ∃ x t, v = .str x t ∧ ts[i]? = some x) (hb : ts.length + 1 < scanBound) :
    ∀ (k i : Nat) (s : Shared) (ks : List Str), ts.length - i = k → i ≤ ts.length → St i s → TxSet prog w s.heap S ks → ks.length ≤ i → (∀ x, x ∈ ks ↔ x ∈ ts.take i) →
      (∀ s' ks', Moved (S :: wr) G s s' → TxSet prog w s'.heap S ks' → ks'.length ≤ ts.length → (∀ x, x ∈ ks' ↔ x ∈ ts) → R (.ok (.ret .none)) s') →
      codeAny (model prog w) A (.builtin "set.update.loop" ⟨[.ref S, .ref I], []⟩) R s := by
  have hSw : S ∉ wr := fun h => hSf (W.sub _ h)
  have hsub : ∀ b ∈ wr, b ∈ S :: wr := fun b hb => List.mem_cons_of_mem _ hb
  intro k
  induction k with
  | zero =>
    intro i s ks hk hi hst hS hl hm0 hR
    have hin : i = ts.length := by omega
    subst hin
    refine codeAny_builtin PyProof.Rows.F.entry_set_update_loop ?_
    rw [Around.under_plainId PyProof.Rows.F.plain_set_update_loop _]
    show wpAny _ A.in1 (pyNext (.ref I) >>= _) _ _ s
    refine wpAny_bind (W.done s _ _ hst fun s' hm => ?_)
    show wpAny _ A.in1 (ret Value.none) _ _ s'
    exact wpAny_pure (hR s' ks (hm.mono hsub) (hS.kept fun o e => hm.heap S _ hSw e) hl (fun x => by rw [hm0, List.take_length]))
  | succ k ih =>
    intro i s ks hk hi hst hS hl hm0 hR
    have hlt : i < ts.length := by omega
    refine codeAny_builtin PyProof.Rows.F.entry_set_update_loop ?_
    rw [Around.under_plainId PyProof.Rows.F.plain_set_update_loop _]
    show wpAny _ A.in1 (pyNext (.ref I) >>= _) _ _ s
    refine wpAny_bind (W.item i s _ _ hlt hst fun v s' hP hst' hm => ?_)
    obtain ⟨x, t, rfl, hx⟩ := hval i v hP
    have hS' : TxSet prog w s'.heap S ks := hS.kept fun o e => hm.heap S _ hSw e
    show wpAny _ A.in1 (holding [Value.str x t] (setAdd S (.str x t)) >>= _) _ _ s'
    refine wpAny_bind (wpAny_holding ?_)
    unfold setAdd
    refine wpAny_holding ?_
    refine wpAny_bind ((strKind prog w).pyHash (k := x) (strK_is x t) ?_)
    refine tset_add (s := { s' with toks := s'.toks + 1 }) hS' (by omega) fun h' ks' hsb hS2 hl2 hm2 b => ?_
    refine wpAny_pure ⟨plainId_quiet PyProof.Rows.F.plain_set_update_loop _, ih (i + 1) _ ks' (by omega) hlt (W.frame _ s' _ _ hst' (Nat.le_succ _) fun b hb o e => ?_) hS2 (by omega) (fun y => ?_) fun s'' k2 hm'' hS'' => ?_⟩
    · rw [hsb.2 b (fun h : b = S => hSf (by rw [← h]; exact hb))]; exact e
    · rw [hm2, hm0, List.take_succ, hx]
      simp
    · refine hR s'' k2 (Moved.trans W.gtrans ((hm.mono hsub).then_heap (Nat.le_succ _) fun b o hb e => ?_) hm'') hS''
      rw [hsb.2 b (fun h : b = S => hb (by rw [h]; exact List.mem_cons_self))]; exact e
end
section
variable {prog : Program} {w : World} {A : Around} {E : Value → Shared → Prop} {s : Shared}
theorem code_setnew (a : Value) {Q₁ : Value → Shared → Prop}
    (h : Q₁ (.ref s.heap.objs.size) { s with heap := s.heap.push { cls := .type "set", dict := none, data := .set #[] 0 (.fresh 0 0 (!byTx w)) } }) :
    codeAny (model prog w) A (.call (.builtin "set.__new__") ⟨[.type "set", a], []⟩) (wants Q₁ E) s := by
  refine codeAny_of_tree ?_
  show wpAny _ A.in1 (do checkBuiltinCall "set.__new__" ⟨[.type "set", a], []⟩; again (.builtin "set.__new__" ⟨[.type "set", a], []⟩)) _ _ s
  refine wpAny_bind (wpAny_of_eq (PySem.F.newCall_set_1 a) (wpAny_pure ⟨plainId_quiet PySem.F.plain_set_new _, codeAny_builtin PySem.F.entry_set_new ?_⟩))
  rw [Around.under_plainId PySem.F.plain_set_new _]
  unfold Builtin.«set.__new__» Builtin.Frozenset.newClass
  have hsub := sub_set_self
  obtain ⟨hp, g, d, tk, os⟩ := s
  dsimp only
  wp_walk
  refine wpAny_askSetting (wpAny_pure ?_)
  dsimp only
  simp only [newObj]
  refine wpAny_bind (wpAny_alloc (wpAny_pure ?_))
  exact wpAny_pure h
theorem tset_fresh {h : Heap} {a : Addr} (e : h.get? a = some { cls := .type "set", dict := none, data := .set #[] 0 (.fresh 0 0 (!byTx w)) }) : TxSet prog w h a [] :=
  ⟨⟨#[], 0, _, e, fun e he => by simp at he, .nil, rfl, rfl, .inl rfl⟩, List.nodup_nil, by decide⟩
end
section
variable {prog : Program} {w : World} {A : Around} {E : Value → Shared → Prop} {s : Shared}
set_option maxHeartbeats 3200000 in
theorem call_set_strs {l : Addr} {items : Array Value} {ts : List Str} {Q : Value → Shared → Prop}
    (hh : A.handled = none) (hl : s.heap.IsList l items) (hi : StrsAre items.toList ts) (hb : ts.length + 1 < scanBound)
    (h : ∀ (h' : Heap) (tk : Nat) (ks : List Str), TxSet prog w h' s.heap.objs.size ks → ks.length ≤ ts.length → (∀ x, x ∈ ks ↔ x ∈ ts) →
      (∀ b o, b < s.heap.objs.size → s.heap.get? b = some o → h'.get? b = some o) → Q (.ref s.heap.objs.size) { s with heap := h', toks := tk }) :
    wpAny (model prog w) A (call (.type "set") [.ref l]) Q E s := by
  have hsz : items.size = ts.length := by rw [← Array.length_toList]; exact strsAre_len hi
  obtain ⟨c, tl, hmro⟩ := PySem.F.called_set.mro
  have hmade := PySem.F.called_set.made
  have hsub := PySem.F.called_set.sub
  refine wpAny_call (codeAny_of_tree ?_)
  show wpAny _ _ (callAny (.type "set") _) _ _ _
  refine wpAny_pure ⟨Code.quiet_builtin _ (by decide +kernel), codeAny_builtin PySem.F.entry_type_call ?_⟩
  rw [Around.under_plain (weight_type_call_type "set" [.ref l] []) rfl]
  have h1 := PySem.F.called_set.notType
  have h2 := PySem.F.called_set.canCreate
  have hct := PySem.F.typeCall_set_1 (.ref l)
  repeat (any_goals (first | assumption | wp_step))
  refine codeAny_mono (code_setnew (.ref l) (E := E) (Q₁ := fun obj s₁ => obj = .ref s.heap.objs.size ∧ s₁ = { s with heap := s.heap.push { cls := .type "set", dict := none, data := .set #[] 0 (.fresh 0 0 (!byTx w)) } }) ⟨rfl, rfl⟩) fun r s₁ hr => ?_
  cases r with
  | error e => exact hr
  | ok fl =>
    cases fl with
    | ret obj =>
      obtain ⟨rfl, rfl⟩ := hr
      have hS : (s.heap.push { cls := .type "set", dict := none, data := .set #[] 0 (.fresh 0 0 (!byTx w)) }).get? s.heap.objs.size = some { cls := .type "set", dict := none, data := .set #[] 0 (.fresh 0 0 (!byTx w)) } := Heap.get?_push_size _ rfl
      have hT : Shared.TypeIs { s with heap := s.heap.push { cls := .type "set", dict := none, data := .set #[] 0 (.fresh 0 0 (!byTx w)) } } (.ref s.heap.objs.size) "set" := ⟨_, hS, rfl⟩
      have hli := PySem.F.called_set.init.lookup
      have hbi := PySem.F.called_set.init.bind (.ref s.heap.objs.size)
      repeat (any_goals (first | assumption | wp_step))
      refine codeAny_mono (codeAny_call_builtin (R := wants (fun r s₂ => r = .none ∧ ∃ h' tk ks, s₂ = { s with heap := h', toks := tk } ∧ TxSet prog w h' s.heap.objs.size ks ∧ ks.length ≤ ts.length ∧ (∀ x, x ∈ ks ↔ x ∈ ts) ∧
          (∀ b o, b < s.heap.objs.size → s.heap.get? b = some o → h'.get? b = some o)) E) PySem.F.called_set.init.plain PySem.F.entry_set_init (check_set_init_1 hT ?_)) fun r₂ s₂ hr₂ => ?_
      · obtain ⟨ol, hol, hcl, nl, hdl⟩ := hl
        obtain ⟨ocls, odict, odata, oslots⟩ := ol
        simp only at hcl hdl
        subst hcl; subst hdl
        have hol' : (s.heap.push { cls := .type "set", dict := none, data := .set #[] 0 (.fresh 0 0 (!byTx w)) }).get? l = some { cls := .type "list", dict := odict, data := .seq items nl, slots := oslots } := Heap.get?_push_of_some _ hol
        have hsls := PySem.F.sub_list_set
        have hslf := PySem.F.sub_list_frozenset
        have hne : (Value.type "list" == Value.type "dict") = false := by decide
        have hl1 : (s.heap.push { cls := .type "set", dict := none, data := .set #[] 0 (.fresh 0 0 (!byTx w)) }).IsList l items := ⟨_, hol', rfl, nl, rfl⟩
        unfold Builtin.«set.__init__» noKeywords Builtin.Frozenset.updateFrom
        generalize hPI : pyIter = PI
        wp_walk
        subst hPI
        refine wpAny_pyIter_list hl1 ?_
        refine wpAny_bind (wpAny_runValue ?_)
        have hlS : l < s.heap.objs.size := Heap.lt_size hol
        have hh3 : A.in1.in1.in1.handled = none := by simp [hh]
        have hneI : l ≠ (s.heap.push { cls := .type "set", dict := none, data := .set #[] 0 (.fresh 0 0 (!byTx w)) }).objs.size := by
          rw [Heap.size_push]; exact Nat.ne_of_lt (Nat.lt_succ_of_lt hlS)
        have hSf : s.heap.objs.size ∉ [(s.heap.push { cls := .type "set", dict := none, data := .set #[] 0 (.fresh 0 0 (!byTx w)) }).objs.size, l] := by
          rw [Heap.size_push]; simp only [List.mem_cons, List.mem_singleton, List.not_mem_nil, or_false, not_or]
          exact ⟨Nat.ne_of_lt (Nat.lt_succ_self _), Nat.ne_of_gt hlS⟩
        have hval : ∀ (i : Nat) (v : Value), items[i]? = some v → ∃ x t, v = .str x t ∧ ts[i]? = some x := fun i v hv =>
          strs_at hi i v (by rw [Array.getElem?_toList]; exact hv)
        have W := (Walks.list (prog := prog) (w := w) hh3 (s.heap.push { cls := .type "set", dict := none, data := .set #[] 0 (.fresh 0 0 (!byTx w)) }).objs.size l hneI items).toS
        rw [hsz] at W
        refine tset_loop ts W s.heap.objs.size hSf hval hb (ts.length - 0) 0 _ [] (by omega) (Nat.zero_le _)
          ⟨⟨_, Heap.get?_push_size _ rfl, rfl, rfl⟩, (hl1.push _)⟩ (tset_fresh (Heap.get?_push_of_some _ hS)) (Nat.le_refl _) (fun x => by simp) ?hR
        case hR =>
          intro s' ks hm hS' hlk hmk
          obtain ⟨h', g', d', tk', os'⟩ := s'
          have eg : g' = s.gens := hm.gens
          have ed : d' = s.drawn := hm.drawn
          have eo : os' = s.os := hm.os
          subst eg; subst ed; subst eo
          show wpAny _ _ _ _ _ _
          refine wpAny_pure ?_
          show wpAny _ _ (ret Value.none) _ _ _
          refine wpAny_pure ⟨rfl, h', tk', ks, rfl, hS', hlk, hmk, fun b o hb e => ?_⟩
          have hb1 : b ≠ s.heap.objs.size := Nat.ne_of_lt hb
          have hb2 : b ≠ (s.heap.push { cls := .type "set", dict := none, data := .set #[] 0 (.fresh 0 0 (!byTx w)) }).objs.size := by
            rw [Heap.size_push]; exact Nat.ne_of_lt (Nat.lt_succ_of_lt hb)
          exact hm.heap b o (by simp only [List.mem_cons, List.mem_singleton, List.not_mem_nil, or_false, not_or]; exact ⟨hb1, hb2⟩) (Heap.get?_push_of_some _ (Heap.get?_push_of_some _ e))
      · cases r₂ with
        | error e => exact hr₂
        | ok fl₂ =>
          cases fl₂ with
          | ret r =>
            obtain ⟨rfl, h', tk, ks, rfl, hS', hlk, hmk, hk'⟩ := hr₂
            repeat (any_goals (first | assumption | wp_step))
            exact h _ _ ks hS' hlk hmk hk'
          | _ => exact hr₂.elim
    | _ => exact hr.elim
end
end L2
set_option Elab.async false
set_option linter.all false
set_option maxRecDepth 100000
set_option exponentiation.threshold 2000
namespace L2
open PySem PySem.Spec PyProof.Rows
theorem wpa_choose {M : Model} {A : Around} {E : Value → Shared → Prop} {s : Shared} {src : Source} {n : Nat} {Q : Nat → Shared → Prop} (hn : 0 < n) (h : ∀ i d', i < n → Q i { s with drawn := d' }) :
    wpAny M A (choose src n) Q E s := fun Γ p hΓ => by
  show Sem.wp M Γ (.choose src n .pure) _ _ p s
  rw [Sem.wp_choose]
  exact ⟨by omega, h _ _ (Nat.mod_lt _ hn)⟩
theorem erase_perm {α : Type} : ∀ {l : List α} {i : Nat} {x : α}, l[i]? = some x → (x :: l.eraseIdx i).Perm l
  | [], i, x, h => by simp at h
  | y :: l, 0, x, h => by simp at h; subst h; exact .refl _
  | y :: l, i + 1, x, h => by
    rw [List.getElem?_cons_succ] at h
    rw [List.eraseIdx_cons_succ]
    exact (List.Perm.swap _ _ _).trans ((erase_perm h).cons _)
theorem wpa_draw {M : Model} {A : Around} {E : Value → Shared → Prop} {α : Type} : ∀ (n : Nat) (xs : List α) (s : Shared) {Q : List α → Shared → Prop}, xs.length ≤ n → (∀ ys d', ys.Perm xs → Q ys { s with drawn := d' }) →
    wpAny M A (drawOrder n xs) Q E s
  | 0, xs, s, Q, hn, h => by
    have : xs = [] := List.length_eq_zero_iff.mp (Nat.le_zero.mp hn)
    subst this
    exact wpAny_pure (h [] s.drawn (.refl _))
  | n + 1, [], s, Q, hn, h => wpAny_pure (h [] s.drawn (.refl _))
  | n + 1, x :: xs, s, Q, hn, h => by
    show wpAny M A (choose .order (x :: xs).length >>= _) Q E s
    refine wpAny_bind (wpa_choose (by simp) fun i d1 hi => ?_)
    have hx : (x :: xs)[i]? = some (x :: xs)[i] := List.getElem?_eq_getElem hi
    rw [hx]
    show wpAny M A (drawOrder n ((x :: xs).eraseIdx i) >>= _) Q E _
    have hl : ((x :: xs).eraseIdx i).length ≤ n := by
      rw [List.length_eraseIdx, if_pos hi]
      simp at hn ⊢
      omega
    refine wpAny_bind (wpa_draw n _ _ hl fun ys d2 hp => wpAny_pure ?_)
    exact h _ d2 ((hp.cons _).trans (erase_perm hx))
theorem pick_go {α : Type} (next : Nat → Nat) : ∀ (n k : Nat) (left : List α) (out : Array α), left.length ≤ n → ((pickOrder.go next n k left out).toList).Perm (out.toList ++ left)
  | 0, k, left, out, h => by
    have : left = [] := List.length_eq_zero_iff.mp (Nat.le_zero.mp h)
    subst this
    simp [pickOrder.go]
  | n + 1, k, left, out, h => by
    unfold pickOrder.go
    split
    · rename_i x hx
      have hlt : next k % left.length < left.length := (List.getElem?_eq_some_iff.mp hx).1
      refine (pick_go next n (k + 1) _ _ ?_).trans ?_
      · rw [List.length_eraseIdx, if_pos hlt]; omega
      · rw [Array.toList_push, List.append_assoc]
        exact List.Perm.append_left _ (erase_perm hx)
    · rename_i hx
      cases left with
      | nil => simp
      | cons y l =>
        have : next k % (y :: l).length < (y :: l).length := Nat.mod_lt _ (by simp)
        rw [List.getElem?_eq_getElem this] at hx
        cases hx
theorem pick_perm {α : Type} (next : Nat → Nat) (xs : Array α) : ((pickOrder next xs).toList).Perm xs.toList := by
  have := pick_go next xs.size 0 xs.toList #[] (by simp)
  simpa [pickOrder] using this
theorem setDrawn_eq (a : Addr) : setDrawn a = (do
    let (es, _, t) ← setState a
    let byText ← setsByText
    return !byText && (!t.plain && decide (es.size > 1))) := rfl
theorem setNext_eq (a : Addr) (slot given epochThen : Nat) : setNext a slot given epochThen = (do
    let (es, epoch, t) ← setState a
    if ← setsByText then
      if epoch != epochThen then unsupported "set_iterator.__next__:elements-changed"
      return ((← setWalk a)[given]?).map fun e => (e.2, slot)
    if (!t.plain && decide (es.size > 1)) then unsupported "set_iterator.__next__:the-table-is-plain-no-more"
    (do if !t.led && !es.isEmpty then unsupported "set:maker-not-led" : Sem Unit)
    let i := SetTable.below t.place slot
    return match es[i]?, t.place[i]? with
      | some (_, x), some j => some (x, j + 1)
      | _, _ => none) := rfl
namespace FS
theorem entry_set_iter : entryFor table "set.__iter__" = some Builtin.«frozenset.__iter__» := entryFor_alias (id' := "frozenset.__iter__") (by kernel_rfl) rfl (by decide +kernel) (by kernel_rfl)
theorem slot_si_next : Slot "set_iterator" "__next__" "set_iterator.__next__" :=
  .of (owner := "set_iterator") (n := "__next__") (by rw [typeLookup_type, builtinLookup_eq_fast]; kernel_rfl) (by decide +kernel) (by decide +kernel) (by decide +kernel)
    (by first | exact .inl (by decide +kernel) | exact .inr (by decide +kernel)) (by rw [isSubtype_type]; kernel_rfl)
theorem entry_si_next : entryFor table "set_iterator.__next__" = some Builtin.«set_iterator.__next__» := entryFor_of_tree (by kernel_rfl)
theorem args_si_next (a : Value) : argsOk "set_iterator.__next__" ⟨[a], []⟩ := by unfold argsOk; kernel_rfl
theorem slot_si_iter : Slot "set_iterator" "__iter__" "set_iterator.__iter__" :=
  .of (owner := "set_iterator") (n := "__iter__") (by rw [typeLookup_type, builtinLookup_eq_fast]; kernel_rfl) (by decide +kernel) (by decide +kernel) (by decide +kernel)
    (by first | exact .inl (by decide +kernel) | exact .inr (by decide +kernel)) (by rw [isSubtype_type]; kernel_rfl)
theorem entry_si_iter : entryFor table "set_iterator.__iter__" = some Builtin.«dict_keyiterator.__iter__» :=
  entryFor_alias (id' := "dict_keyiterator.__iter__") (by kernel_rfl) rfl (by decide +kernel) (by kernel_rfl)
theorem args_si_iter (a : Value) : argsOk "set_iterator.__iter__" ⟨[a], []⟩ := by unfold argsOk; kernel_rfl
end FS
abbrev IsSetIter (h : Heap) (I a : Addr) (first : Value) (i n ep : Nat) : Prop :=
  h.get? I = some { cls := .type "set_iterator", dict := none, data := .fields #[first, .int i 0, .ref a, .int n 0, .int ep 0] }
inductive SOrd (w : World) (a : Addr) (es : Array (Int × Value)) (ep : Nat) (t : SetTable) : (Nat → Value) → List Value → List (Addr × Obj) → Prop
  | drawn (T : Addr) (places : List Nat) (h0 : byTx w = false) (hp : places.Perm (List.range es.size)) (h2 : 1 < es.size) :
    SOrd w a es ep t (fun _ => .ref T) (places.filterMap fun p => (es[p]?).map (·.2)) [(T, { cls := .type "tuple", data := .seq (places.map fun (i : Nat) => rawInt i).toArray })]
  | text (h0 : byTx w = true) : SOrd w a es ep t (fun _ => rawInt 0) ((pickOrder (w.params.setOrder a ep) es).toList.map (·.2)) []
  | few (h0 : byTx w = false) (h2 : es.size ≤ 1) : SOrd w a es ep t (fun i => rawInt (if i = 0 then 0 else t.place.getD 0 0 + 1)) (es.toList.map (·.2)) []
theorem fm_range (es : Array (Int × Value)) : ((List.range es.size).filterMap fun p => (es[p]?).map (·.2)) = es.toList.map (·.2) := by
  have := filterMap_getElem?_range es
  rw [← this, List.map_filterMap]
theorem SOrd.perm {w : World} {a : Addr} {es : Array (Int × Value)} {ep : Nat} {t : SetTable} {f : Nat → Value} {vs : List Value} {ob : List (Addr × Obj)} (h : SOrd w a es ep t f vs ob) : vs.Perm (es.toList.map (·.2)) := by
  cases h with
  | drawn T places h0 hp h2 => rw [← fm_range]; exact hp.filterMap _
  | text h0 => exact (pick_perm _ _).map _
  | few h0 h2 => exact .refl _
section
variable {prog : Program} {w : World} {A : Around} {E : Value → Shared → Prop} {s : Shared}
theorem wpa_byText {Q : Bool → Shared → Prop} (h : Q (byTx w) s) : wpAny (model prog w) A setsByText Q E s := by
  unfold setsByText
  exact wpAny_bind (wpAny_askSetting (wpAny_pure h))
theorem iter_tset {a : Addr} {es : Array (Int × Value)} {ep : Nat} {t : SetTable} {Q : Value → Shared → Prop} (ho : s.heap.get? a = some { cls := .type "set", dict := none, data := .set es ep t })
    (hf : t.fits es.size = true) (hp : es.size = 0 ∨ t.plain = false) (hz : es.size ≤ sizeLine)
    (hQ : ∀ h' d' I f vs ob, SOrd w a es ep t f vs ob → s.heap.objs.size ≤ I → IsSetIter h' I a (f 0) 0 es.size ep → (∀ p ∈ ob, h'.get? p.1 = some p.2 ∧ s.heap.objs.size ≤ p.1 ∧ p.1 ≠ I) → (∀ b o, s.heap.get? b = some o → h'.get? b = some o) →
      I < h'.objs.size → (∀ p ∈ ob, p.1 < h'.objs.size) → Q (.ref I) { s with heap := h', drawn := d' }) :
    wpAny (model prog w) A (pyIter (.ref a)) Q E s := by
  have hT : s.TypeIs (.ref a) "set" := ⟨_, ho, rfl⟩
  refine wpAny_pyIter_slot hT PySem.F.slot_set_iter (wpAny_call_entry PySem.F.slot_set_iter hT FS.entry_set_iter ?_ (PySem.F.args_set_iter_1 _))
  unfold Builtin.«frozenset.__iter__» Builtin.Frozenset.slot0 Builtin.Frozenset.sizeOf
  refine wpAny_bind (wpAny_bind (m := slotArgs _ _ _) (wpAny_pure (wpAny_pure ?_)))
  refine wpAny_bind (wpAny_bind (wpAny_setEntries_of ho rfl hf (wpAny_pure ?_)))
  dsimp only
  rw [setDrawn_eq]
  refine wpAny_bind (wpAny_bind (wpAny_setState_of ho rfl hf (wpAny_bind (wpa_byText (wpAny_pure ?_)))))
  by_cases hd : (!byTx w && (!t.plain && decide (es.size > 1))) = true
  · rw [if_pos hd]
    have hd' : byTx w = false ∧ 1 < es.size := by
      simp only [Bool.and_eq_true, Bool.not_eq_true', decide_eq_true_eq] at hd
      exact ⟨hd.1, hd.2.2⟩
    refine wpAny_bind (wpa_draw _ _ _ (by simp) fun ys d' hy => ?_)
    refine wpAny_bind (wpAny_newTuple ?_ (by rw [List.length_map, hy.length_eq, List.length_range]; exact hz))
    have ho2 : (s.heap.push { cls := .type "tuple", data := .seq (ys.map fun (i : Nat) => rawInt i).toArray }).get? a = some { cls := .type "set", dict := none, data := .set es ep t } := Heap.get?_push_of_some _ ho
    refine wpAny_bind (wpAny_setEpoch_of (s := { s with drawn := d', heap := s.heap.push { cls := .type "tuple", data := .seq (ys.map fun (i : Nat) => rawInt i).toArray } }) ho2 rfl hf ?_)
    refine wpAny_bind (wpAny_newObj_type (wpAny_pure ⟨_, rfl, "set_iterator", _, ⟨_, Heap.get?_push_size _ rfl, rfl⟩, FS.slot_si_next.lookup, ?_⟩))
    refine hQ _ d' _ _ _ _ (.drawn s.heap.objs.size ys hd'.1 hy hd'.2) ?_ (Heap.get?_push_size _ rfl) (fun p hp => ?_) (fun b o e => Heap.get?_push_of_some _ (Heap.get?_push_of_some _ e)) ?_ (fun p hp => ?_)
    · rw [Heap.size_push]; exact Nat.le_succ _
    · rw [List.mem_singleton] at hp
      subst hp
      exact ⟨Heap.get?_push_of_some _ (Heap.get?_push_size _ rfl), Nat.le_refl _, by rw [Heap.size_push]; exact Nat.ne_of_lt (Nat.lt_succ_self _)⟩
    · simp only [Heap.size_push]; omega
    · rw [List.mem_singleton] at hp
      subst hp
      show s.heap.objs.size < _
      simp only [Heap.size_push]; omega
  · rw [if_neg hd]
    refine wpAny_bind (wpAny_pure ?_)
    refine wpAny_bind (wpAny_setEpoch_of ho rfl hf ?_)
    refine wpAny_bind (wpAny_newObj_type (wpAny_pure ⟨_, rfl, "set_iterator", _, ⟨_, Heap.get?_push_size _ rfl, rfl⟩, FS.slot_si_next.lookup, ?_⟩))
    cases hb : byTx w with
    | true =>
      exact hQ _ s.drawn _ _ _ _ (.text hb) (Nat.le_refl _) (Heap.get?_push_size _ rfl) (fun p hp => nomatch hp) (fun b o e => Heap.get?_push_of_some _ e) (by rw [Heap.size_push]; exact Nat.lt_succ_self _) (fun p hp => nomatch hp)
    | false =>
      refine hQ _ s.drawn _ _ _ _ (.few hb ?_) (Nat.le_refl _) (Heap.get?_push_size _ rfl) (fun p hp => nomatch hp) (fun b o e => Heap.get?_push_of_some _ e) (by rw [Heap.size_push]; exact Nat.lt_succ_self _) (fun p hp => nomatch hp)
      rcases hp with h | h
      · omega
      · simp [hb, h] at hd
        exact hd
end
end L2
set_option Elab.async false
set_option linter.all false
set_option maxRecDepth 100000
set_option exponentiation.threshold 2000
namespace L2
open PySem PySem.Spec PyProof.Rows
section
variable {prog : Program} {w : World} {A : Around} {E : Value → Shared → Prop} {s : Shared}
def SSt (w : World) (I a : Addr) (es : Array (Int × Value)) (ep : Nat) (t : SetTable) (f : Nat → Value) (ob : List (Addr × Obj)) (i : Nat) (h : Heap) : Prop :=
  IsSetIter h I a (f i) i es.size ep ∧ h.get? a = some { cls := .type "set", dict := none, data := .set es ep t } ∧ ∀ p ∈ ob, h.get? p.1 = some p.2
theorem below_one (p : Nat) : SetTable.below #[p] 0 = 0 ∧ SetTable.below #[p] (p + 1) = 1 := by
  constructor
  · simp [SetTable.below, SetTable.below.go]
  · simp [SetTable.below, SetTable.below.go]
theorem setIt_upd {h : Heap} {I a : Addr} {first x : Value} {i n ep k : Nat} (hi : IsSetIter h I a first i n ep) (f : Array Value → Array Value) :
    (h.update I (Obj.mapFields f)).get? I = some { cls := .type "set_iterator", dict := none, data := .fields (f #[first, .int i 0, .ref a, .int n 0, .int ep 0]) } := by
  have := Heap.get?_update_self (Obj.mapFields f) hi rfl
  exact this
set_option maxHeartbeats 1000000 in
theorem next_tset {I a : Addr} {es : Array (Int × Value)} {ep : Nat} {t : SetTable} {f : Nat → Value} {vs : List Value} {ob : List (Addr × Obj)} {i : Nat} {v : Value} {Q : Option Value → Shared → Prop}
    (hO : SOrd w a es ep t f vs ob) (hf : t.fits es.size = true) (hl : t.led = !byTx w) (hne : a ≠ I) (hob : ∀ p ∈ ob, p.1 ≠ I) (hS : SSt w I a es ep t f ob i s.heap) (hv : vs[i]? = some v)
    (hQ : ∀ h', SSt w I a es ep t f ob (i + 1) h' → Heap.SameBut I s.heap h' → Q (some v) { s with heap := h' }) :
    wpAny (model prog w) A (pyNext (.ref I)) Q E s := by
  obtain ⟨hi, ha, hbs⟩ := hS
  have hT : s.TypeIs (.ref I) "set_iterator" := ⟨_, hi, rfl⟩
  unfold pyNext
  refine wpAny_bind (wpAny_attempt (wpAny_callSpecial?_slot (name := Str.ofString "__next__") hT FS.slot_si_next
    (wpAny_call_entry FS.slot_si_next hT FS.entry_si_next ?_ (FS.args_si_next _))))
  unfold Builtin.«set_iterator.__next__»
  refine wpAny_bind (m := slotArgs _ _ _) (wpAny_pure ?_)
  dsimp only
  refine wpAny_bind (wpAny_fieldsOf hi rfl ?_)
  dsimp only
  refine wpAny_bind (wpAny_setEntries_of ha rfl hf ?_)
  rw [if_neg (by simp)]
  have hil : i < vs.length := (List.getElem?_eq_some_iff.mp hv).1
  have fin : ∀ (first : Value) (h' : Heap), Heap.SameBut I s.heap h' → IsSetIter h' I a (f (i + 1)) (i + 1) es.size ep → Q (some v) { s with heap := h' } := fun first h' sb hi' =>
    hQ h' ⟨hi', by rw [sb.2 a hne]; exact ha, fun p hp => by rw [sb.2 p.1 (hob p hp)]; exact hbs p hp⟩ sb
  cases hO with
  | drawn T places h0 hp h2 =>
    dsimp only
    have hTt := hbs _ (List.mem_singleton.mpr rfl)
    refine wpAny_bind (wpAny_seqItems hTt rfl ?_)
    have hpl : places.length = es.size := by rw [hp.length_eq, List.length_range]
    have hall : ∀ p ∈ places, p < es.size := fun p hm => by simpa using hp.mem_iff.mp hm
    have hfm : ∀ (l : List Nat), (∀ p ∈ l, p < es.size) → (l.filterMap fun p => (es[p]?).map (·.2)) = l.map fun p => (es.getD p (0, .none)).2 := by
      intro l
      induction l with
      | nil => intro _; rfl
      | cons q l ih =>
        intro hq
        have hq0 : q < es.size := hq q (by simp)
        have h1 : es[q]? = some es[q] := Array.getElem?_eq_getElem hq0
        rw [List.filterMap_cons, h1, List.map_cons, ← ih fun p hm => hq p (by simp [hm])]
        simp [Array.getD, hq0]
    rw [hfm places hall, List.getElem?_map] at hv
    cases hpi : places[i]? with
    | none => rw [hpi] at hv; cases hv
    | some pl =>
      rw [hpi] at hv
      have hlt : pl < es.size := hall pl (List.mem_of_getElem? hpi)
      have hvv : v = es[pl].2 := by
        have : (es.getD pl (0, .none)).2 = v := Option.some.inj hv
        rw [← this]
        simp [Array.getD, hlt]
      have hpi' : (places.map fun (i : Nat) => rawInt i).toArray[i]? = some (.int pl 0) := by
        rw [List.getElem?_toArray, List.getElem?_map, hpi]; rfl
      show wpAny _ _ (match (places.map fun (i : Nat) => rawInt i).toArray[(i : Int).toNat]? with | some (.int place _) => _ | some _ => _ | none => _) _ _ _
      rw [Int.toNat_natCast, hpi']
      dsimp only
      unfold setNextDrawn
      refine wpAny_bind (wpAny_bind (wpAny_setState_of ha rfl hf ?_))
      dsimp only
      rw [if_neg (by simp)]
      rw [Int.toNat_natCast, Array.getElem?_eq_getElem hlt]
      dsimp only
      refine wpAny_pure ?_
      refine wpAny_bind (wpAny_setField hi rfl (by simp) ?_)
      refine wpAny_pure ⟨_, rfl, wpAny_pure ?_⟩
      rw [← hvv]
      exact fin v _ (Heap.SameBut.update ..) (setIt_upd (x := v) (k := 0) hi _)
  | text h0 =>
    show wpAny _ _ (setNext a 0 (i : Int).toNat (ep : Int).toNat >>= _) _ _ _
    rw [setNext_eq, Int.toNat_natCast, Int.toNat_natCast]
    refine wpAny_bind (wpAny_bind (wpAny_setState_of ha rfl hf (wpAny_bind (wpa_byText ?_))))
    rw [if_pos h0]
    dsimp only
    rw [if_neg (by simp)]
    unfold setWalk
    refine wpAny_bind (wpAny_bind (wpAny_setState_of ha rfl hf (wpAny_bind (wpa_byText ?_))))
    rw [if_pos h0]
    refine wpAny_bind (wpAny_askSetting (wpAny_pure (wpAny_pure ?_)))
    rw [List.getElem?_map, Array.getElem?_toList] at hv
    cases hpk : (pickOrder (w.params.setOrder a ep) es)[i]? with
    | none => rw [hpk] at hv; cases hv
    | some e =>
      rw [hpk] at hv
      show wpAny _ _ (match ((pickOrder (w.params.setOrder a ep) es)[i]?).map fun e => (e.2, 0) with | some (x, next) => _ | none => _) _ _ _
      rw [hpk]
      have hvv : e.2 = v := Option.some.inj hv
      dsimp only [Option.map]
      refine wpAny_bind (wpAny_setField hi rfl (by simp) ?_)
      have hi1 := setIt_upd (x := v) (k := 0) hi (·.setIfInBounds 0 (rawInt (0 : Nat)))
      refine wpAny_bind (wpAny_setField (s := { s with heap := s.heap.update I (Obj.mapFields (·.setIfInBounds 0 (rawInt (0 : Nat)))) }) hi1 rfl (by simp) ?_)
      refine wpAny_pure ⟨_, rfl, wpAny_pure ?_⟩
      rw [hvv]
      refine fin v _ ((Heap.SameBut.update ..).trans (Heap.SameBut.update ..)) ?_
      exact setIt_upd (x := v) (k := 0) (i := i) (first := rawInt 0) (n := es.size) (ep := ep) (a := a) (by exact hi1) _
  | few h0 h2 =>
    have hi0 : i = 0 := by rw [List.length_map, Array.length_toList] at hil; omega
    subst hi0
    have hsz : es.size = 1 := by rw [List.length_map, Array.length_toList] at hil; omega
    show wpAny _ _ (setNext a 0 (0 : Int).toNat (ep : Int).toNat >>= _) _ _ _
    rw [setNext_eq, Int.toNat_natCast]
    refine wpAny_bind (wpAny_bind (wpAny_setState_of ha rfl hf (wpAny_bind (wpa_byText ?_))))
    rw [if_neg (by rw [h0]; simp)]
    dsimp only
    rw [if_neg (by simp [hsz])]
    rw [hl, h0]
    refine wpAny_bind (m := ite _ _ _) ?_
    rw [if_neg (by simp)]
    refine wpAny_pure ?_
    obtain ⟨p, hpp⟩ : ∃ p, t.place = #[p] := by
      have h1 : t.place.size = 1 := by
        simp only [SetTable.fits, Bool.and_eq_true, beq_iff_eq] at hf
        rw [hf.1, hsz]
      generalize t.place = tp at h1
      obtain ⟨pl⟩ := tp
      cases pl with
      | nil => simp at h1
      | cons p r => cases r with
        | nil => exact ⟨p, rfl⟩
        | cons q r => simp at h1
    obtain ⟨⟨eh, ev⟩, hes⟩ : ∃ e, es = #[e] := by
      obtain ⟨el⟩ := es
      cases el with
      | nil => simp at hsz
      | cons p r => cases r with
        | nil => exact ⟨p, rfl⟩
        | cons q r => simp at hsz
    subst hes
    have hvv : ev = v := by simpa using hv
    subst hvv
    rw [hpp, (below_one p).1]
    refine wpAny_pure ?_
    show wpAny _ _ (setField (.ref I) 0 (rawInt ((p + 1 : Nat) : Int)) >>= _) _ _ _
    refine wpAny_bind (wpAny_setField hi rfl (by simp) ?_)
    have hi1 := setIt_upd (x := ev) (k := 0) hi (·.setIfInBounds 0 (rawInt ((p + 1 : Nat) : Int)))
    refine wpAny_bind (wpAny_setField (s := { s with heap := s.heap.update I (Obj.mapFields (·.setIfInBounds 0 (rawInt ((p + 1 : Nat) : Int)))) }) hi1 rfl (by simp) ?_)
    refine wpAny_pure ⟨_, rfl, wpAny_pure ?_⟩
    refine fin ev _ ((Heap.SameBut.update ..).trans (Heap.SameBut.update ..)) ?_
    have := setIt_upd (x := ev) (k := 0) (i := 0) (first := rawInt ((p + 1 : Nat) : Int)) (n := 1) (ep := ep) (a := a) (by exact hi1) (·.setIfInBounds 1 (rawInt ((0 : Nat) + 1 : Int)))
    rw [hpp]
    exact this
end
end L2
set_option Elab.async false
set_option linter.all false
set_option maxRecDepth 100000
set_option exponentiation.threshold 2000
namespace L2
open PySem PySem.Spec PyProof.Rows
section
variable {prog : Program} {w : World} {A : Around} {E : Value → Shared → Prop} {s : Shared}
theorem stop_now {h1 : Heap} {I : Addr} {P : Fin → Shared → Prop} {Q : Option Value → Shared → Prop} (hh : A.handled = none) (sb : Heap.SameBut I s.heap h1) (hQ : ∀ h', Heap.ExtBut I s.heap h' → Q none { s with heap := h' }) :
    wpAny (model prog w) A.in1 (newExc (.type "StopIteration") [] >>= fun x => raiseNew x) P
      (fun e s' => wpAny (model prog w) A (do if ← isInstance e (.type "StopIteration") then pure none else throw e) Q E s') { s with heap := h1 } := by
  refine wpAny_bind ?_
  simp only [newExc, newTuple]
  refine wpAny_bind (wpAny_newObj_type ?_ (by size_fits))
  refine wpAny_bind (m := firstArgMember _ _) (wpAny_of_eq (a := Value.none) (by first | rfl | (simp only [firstArgMember]; rfl)) ?_)
  refine wpAny_newObj_type ?_ (by size_fits)
  simp only [raiseNew]
  refine wpAny_bind (wpAny_handled ?_)
  rw [show A.in1.handled = none from hh]
  refine wpAny_bind (wpAny_pure (wpAny_throw ?_))
  refine wpAny_bind (wpAny_isInstance (T := "StopIteration") (b := true) ⟨_, Heap.get?_push_size _ rfl, rfl⟩ isSubtype_stop ?_)
  exact wpAny_pure (hQ _ ((sb.extBut.push _).push _))
set_option maxHeartbeats 1000000 in
theorem end_tset {I a : Addr} {es : Array (Int × Value)} {ep : Nat} {t : SetTable} {f : Nat → Value} {vs : List Value} {ob : List (Addr × Obj)} {Q : Option Value → Shared → Prop} (hh : A.handled = none)
    (hO : SOrd w a es ep t f vs ob) (hf : t.fits es.size = true) (hl : t.led = !byTx w) (hne : a ≠ I) (hob : ∀ p ∈ ob, p.1 ≠ I) (hS : SSt w I a es ep t f ob es.size s.heap)
    (hQ : ∀ h', Heap.ExtBut I s.heap h' → Q none { s with heap := h' }) :
    wpAny (model prog w) A (pyNext (.ref I)) Q E s := by
  obtain ⟨hi, ha, hbs⟩ := hS
  have hT : s.TypeIs (.ref I) "set_iterator" := ⟨_, hi, rfl⟩
  unfold pyNext
  refine wpAny_bind (wpAny_attempt (wpAny_callSpecial?_slot (name := Str.ofString "__next__") hT FS.slot_si_next
    (wpAny_call_entry FS.slot_si_next hT FS.entry_si_next ?_ (FS.args_si_next _))))
  unfold Builtin.«set_iterator.__next__»
  refine wpAny_bind (m := slotArgs _ _ _) (wpAny_pure ?_)
  dsimp only
  refine wpAny_bind (wpAny_fieldsOf hi rfl ?_)
  dsimp only
  refine wpAny_bind (wpAny_setEntries_of ha rfl hf ?_)
  rw [if_neg (by simp)]
  cases hO with
  | drawn T places h0 hp h2 =>
    dsimp only
    have hTt := hbs _ (List.mem_singleton.mpr rfl)
    refine wpAny_bind (wpAny_seqItems hTt rfl ?_)
    have hpl : places.length = es.size := by rw [hp.length_eq, List.length_range]
    have hpi' : (places.map fun (i : Nat) => rawInt i).toArray[es.size]? = none := by
      rw [List.getElem?_toArray, List.getElem?_map, List.getElem?_eq_none (by omega)]; rfl
    show wpAny _ _ (match (places.map fun (i : Nat) => rawInt i).toArray[(es.size : Int).toNat]? with | some (.int place _) => _ | some _ => _ | none => _) _ _ _
    rw [Int.toNat_natCast, hpi']
    dsimp only
    refine wpAny_bind (wpAny_setField hi rfl (by simp) ?_)
    have hi1 := setIt_upd (x := .none) (k := 0) hi (·.setIfInBounds 0 (rawInt 0))
    refine wpAny_bind (wpAny_setField (s := { s with heap := s.heap.update I (Obj.mapFields (·.setIfInBounds 0 (rawInt 0))) }) hi1 rfl (by simp) ?_)
    exact stop_now (s := s) (I := I) hh ((Heap.SameBut.update ..).trans (Heap.SameBut.update ..)) hQ
  | text h0 =>
    show wpAny _ _ (setNext a 0 (es.size : Int).toNat (ep : Int).toNat >>= _) _ _ _
    rw [setNext_eq, Int.toNat_natCast, Int.toNat_natCast]
    refine wpAny_bind (wpAny_bind (wpAny_setState_of ha rfl hf (wpAny_bind (wpa_byText ?_))))
    rw [if_pos h0]
    dsimp only
    rw [if_neg (by simp)]
    unfold setWalk
    refine wpAny_bind (wpAny_bind (wpAny_setState_of ha rfl hf (wpAny_bind (wpa_byText ?_))))
    rw [if_pos h0]
    refine wpAny_bind (wpAny_askSetting (wpAny_pure (wpAny_pure ?_)))
    have hpk : (pickOrder (w.params.setOrder a ep) es)[es.size]? = none := by
      have h1 := (pick_perm (w.params.setOrder a ep) es).length_eq
      rw [Array.length_toList, Array.length_toList] at h1
      exact Array.getElem?_eq_none (by omega)
    show wpAny _ _ (match ((pickOrder (w.params.setOrder a ep) es)[es.size]?).map fun e => (e.2, 0) with | some (x, next) => _ | none => _) _ _ _
    rw [hpk]
    dsimp only [Option.map]
    refine wpAny_bind (wpAny_setField hi rfl (by simp) ?_)
    exact stop_now (s := s) (I := I) hh (Heap.SameBut.update ..) hQ
  | few h0 h2 =>
    show wpAny _ _ (setNext a (if es.size = 0 then (0 : Int) else (t.place.getD 0 0 : Int) + 1).toNat (es.size : Int).toNat (ep : Int).toNat >>= _) _ _ _
    rw [setNext_eq, Int.toNat_natCast]
    refine wpAny_bind (wpAny_bind (wpAny_setState_of ha rfl hf (wpAny_bind (wpa_byText ?_))))
    rw [if_neg (by rw [h0]; simp)]
    dsimp only
    rw [if_neg (by simp; intro _; omega)]
    rw [hl, h0]
    refine wpAny_bind (m := ite _ _ _) ?_
    rw [if_neg (by simp)]
    refine wpAny_pure ?_
    have hps : t.place.size = es.size := by
      simp only [SetTable.fits, Bool.and_eq_true, beq_iff_eq] at hf
      exact hf.1
    have hnone : es[SetTable.below t.place (if es.size = 0 then (0 : Int) else (t.place.getD 0 0 : Int) + 1).toNat]? = none := by
      generalize t.place = tp at hps
      obtain ⟨pl⟩ := tp
      cases pl with
      | nil =>
        have : es.size = 0 := by simpa using hps.symm
        exact Array.getElem?_eq_none (by omega)
      | cons p r =>
        cases r with
        | nil =>
          have h1 : es.size = 1 := by simpa using hps.symm
          rw [if_neg (by omega)]
          have : ((([p].toArray).getD 0 0 : Nat) : Int) + 1 = ((p + 1 : Nat) : Int) := rfl
          rw [this, Int.toNat_natCast, (below_one p).2]
          exact Array.getElem?_eq_none (by omega)
        | cons q r =>
          have : es.size = r.length + 2 := by simpa using hps.symm
          omega
    rw [hnone]
    refine wpAny_pure ?_
    show wpAny _ _ (setField (.ref I) 2 .none >>= _) _ _ _
    refine wpAny_bind (wpAny_setField hi rfl (by simp) ?_)
    exact stop_now (s := s) (I := I) hh (Heap.SameBut.update ..) hQ
theorem self_tset {I a : Addr} {first : Value} {i n ep : Nat} {Q : Value → Shared → Prop} (hi : IsSetIter s.heap I a first i n ep) (h : Q (.ref I) s) : wpAny (model prog w) A (pyIter (.ref I)) Q E s := by
  have hT : s.TypeIs (.ref I) "set_iterator" := ⟨_, hi, rfl⟩
  refine wpAny_pyIter_slot hT FS.slot_si_iter (wpAny_call_entry FS.slot_si_iter hT FS.entry_si_iter ?_ (FS.args_si_iter _))
  show wpAny _ _ (ret (.ref I)) _ _ s
  exact wpAny_pure ⟨_, rfl, "set_iterator", _, hT, FS.slot_si_next.lookup, h⟩
end
theorem walks_tset {prog : Program} {w : World} {A : Around} {I a : Addr} {es : Array (Int × Value)} {ep : Nat} {t : SetTable} {f : Nat → Value} {vs : List Value} {ob : List (Addr × Obj)} (hh : A.handled = none)
    (hO : SOrd w a es ep t f vs ob) (hf : t.fits es.size = true) (hl : t.led = !byTx w) (hne : a ≠ I) (hob : ∀ p ∈ ob, p.1 ≠ I) :
    Walks prog w A I (I :: a :: ob.map (·.1)) [I] es.size (fun i v => vs[i]? = some v) (SSt w I a es ep t f ob) where
  sub := fun b hb => by simp at hb; simp [hb]
  frame := fun i h h' st hk => ⟨hk I (by simp) _ st.1, hk a (by simp) _ st.2.1, fun p hp => hk p.1 (by simp; exact .inr (.inr ⟨p.2, hp⟩)) _ (st.2.2 p hp)⟩
  item := fun i s Q E hi st hQ => by
    have hlen : vs.length = es.size := by rw [hO.perm.length_eq, List.length_map, Array.length_toList]
    refine next_tset hO hf hl hne hob st (v := vs[i]'(by omega)) (List.getElem?_eq_getElem (by omega)) fun h' st' sb => ?_
    exact hQ _ h' s.toks (List.getElem?_eq_getElem (by omega)) st' fun b o hb e => sb.extBut b o (fun h => hb (by simp [h])) e
  done := fun s Q E st hQ => end_tset hh hO hf hl hne hob st fun h' he' => hQ h' s.toks fun b o hb e => he' b o (fun h => hb (by simp [h])) e
  self := fun _ _ _ _ st hQ => self_tset st.1 hQ
end L2
set_option Elab.async false
set_option linter.all false
set_option maxRecDepth 100000
set_option exponentiation.threshold 2000
namespace L2
open PySem PySem.Spec PyProof.Rows
namespace FS
theorem set_len : typeLookup (.type "set") "__len__" = pure (some (.builtin "set.__len__")) := by rw [typeLookup_type, builtinLookup_eq_fast]; kernel_rfl
theorem split_set_len : splitId "set.__len__" = some ("set", "__len__") := by decide +kernel
end FS
section
variable {prog : Program} {w : World} {A : Around} {E : Value → Shared → Prop} {s : Shared}
theorem hint_tset {a : Addr} {Q : Bool → Shared → Prop} (hT : s.TypeIs (.ref a) "set") (h : Q false s) : wpAny (model prog w) A (Builtin.List.listLengthHint (.ref a)) Q E s := by
  unfold Builtin.List.listLengthHint
  refine wpAny_bind (wpAny_specialOf hT FS.set_len ?_)
  dsimp only
  generalize hid : ("set.__len__" : String) = id0
  rw [show splitId id0 = some ("set", "__len__") from by subst hid; exact FS.split_set_len]
  subst hid
  dsimp only
  refine wpAny_bind (wpAny_isInstance (b := true) hT sub_set_self ?_)
  simp only [Bool.not_true, Bool.false_eq_true, if_false]
  refine wpAny_bind (wpAny_typeOf hT (wpAny_pure h))
set_option maxHeartbeats 1000000 in
theorem collect_tset {a : Addr} {ks : List Str} {Q : List Value → Shared → Prop} (hh : A.handled = none) (T : TxSet prog w s.heap a ks)
    (hQ : ∀ h' d' tk vs js, StrsAre vs js → js.Perm ks → s.heap.objs.size < h'.objs.size → (∀ b o, s.heap.get? b = some o → h'.get? b = some o) → Q vs { s with heap := h', drawn := d', toks := tk }) :
    wpAny (model prog w) A (collect (.ref a)) Q E s := by
  obtain ⟨⟨es, ep, t, ho, hel, hks, hf, hled, hpl⟩, hnd, hfew⟩ := T
  have hsz : es.size = ks.length := by rw [← strsAre_len hks, List.length_map, Array.length_toList]
  have haS : a < s.heap.objs.size := Heap.lt_size ho
  unfold collect
  refine wpAny_bind (wpAny_runValue (codeAny_builtin PySem.F.entry_proto_collect ?_))
  rw [Around.under_plainId PySem.F.plain_proto_collect _]
  show wpAny _ A.in1 (newList [] >>= fun l => again (.builtin "list.__iadd__" ⟨[l, .ref a], []⟩)) _ _ s
  refine wpAny_bind (wpAny_newObj_type ?_)
  refine wpAny_pure ⟨plainId_quiet PySem.F.plain_list_iadd _, codeAny_builtin PySem.F.entry_list_iadd ?_⟩
  rw [Around.under_plainId PySem.F.plain_list_iadd _]
  generalize hh1 : s.heap.push { cls := .type "list", data := .seq ([] : List Value).toArray } = h1
  have hk1 : ∀ b o, s.heap.get? b = some o → h1.get? b = some o := fun b o e => by rw [← hh1]; exact Heap.get?_push_of_some _ e
  have hS1 : h1.get? s.heap.objs.size = some { cls := .type "list", data := .seq ([] : List Value).toArray } := by rw [← hh1]; exact Heap.get?_push_size _ rfl
  have hz1 : s.heap.objs.size < h1.objs.size := Heap.lt_size hS1
  show wpAny _ A.in1 (Builtin.List.listExtendWith (.ref s.heap.objs.size) (.ref a) (.ref s.heap.objs.size)) _ _ { s with heap := h1 }
  unfold Builtin.List.listExtendWith
  have hT1 : Shared.TypeIs { s with heap := h1 } (.ref a) "set" := ⟨_, hk1 _ _ ho, rfl⟩
  refine wpAny_bind (wpAny_typeOf hT1 ?_)
  have e1 : Builtin.List.listSameRef (.ref s.heap.objs.size) (.ref a) = false := by
    unfold Builtin.List.listSameRef
    exact beq_eq_false_iff_ne.mpr (Ne.symm (Nat.ne_of_lt haS))
  rw [if_neg (by rw [e1]; decide)]
  refine wpAny_bind (iter_tset (s := { s with heap := h1 }) (hk1 _ _ ho) hf hpl (by rw [hsz]; exact fits_of_scanBound hfew) fun h2 d2 I f vs ob hO hI hi hob hk2 hI2 hob2 => ?_)
  refine wpAny_bind (wpAny_holding (hint_tset (s := { s with heap := h2, drawn := d2 }) ⟨_, hk2 _ _ (hk1 _ _ ho), rfl⟩ ?_))
  rw [if_pos (by decide)]
  refine wpAny_bind (wpAny_rule ?_)
  have hS2 : h2.get? s.heap.objs.size = some { cls := .type "list", data := .seq ([] : List Value).toArray } := hk2 _ _ hS1
  refine wpAny_bind ?_
  show wpAny _ A.in1 (updateSeq s.heap.objs.size (·.push .none) >>= fun _ => updateSeq s.heap.objs.size (·.pop)) _ _ { s with heap := h2, drawn := d2 }
  refine wpAny_bind (wpAny_updateSeq hS2 rfl ?_)
  have hS3 := Heap.get?_update_self (Obj.mapSeq (·.push Value.none)) hS2 rfl
  refine wpAny_updateSeq hS3 rfl ?_
  have hS4 := Heap.get?_update_self (Obj.mapSeq (·.pop)) hS3 rfl
  have oth : ∀ b o, b ≠ s.heap.objs.size → h2.get? b = some o → ((h2.update s.heap.objs.size (Obj.mapSeq (·.push Value.none))).update s.heap.objs.size (Obj.mapSeq (·.pop))).get? b = some o :=
    fun b o hb e => (Heap.get?_update_other _ _ (Ne.symm hb)).trans ((Heap.get?_update_other _ _ (Ne.symm hb)).trans e)
  have hIne : I ≠ s.heap.objs.size := Ne.symm (Nat.ne_of_lt (Nat.lt_of_lt_of_le hz1 hI))
  have hane : a ≠ I := Nat.ne_of_lt (Nat.lt_of_lt_of_le haS (Nat.le_trans (Nat.le_of_lt hz1) hI))
  have hobne : ∀ p ∈ ob, p.1 ≠ s.heap.objs.size := fun p hp => Ne.symm (Nat.ne_of_lt (Nat.lt_of_lt_of_le hz1 (hob p hp).2.1))
  have W := (walks_tset (prog := prog) (A := A.in1) (by simpa using hh) hO hf hled hane (fun p hp => (hob p hp).2.2)).toS
  have hlen : vs.length = es.size := by rw [hO.perm.length_eq, List.length_map, Array.length_toList]
  obtain ⟨js, hjs, hjp⟩ := strsAre_perm hO.perm hks
  refine wpAny_pure ⟨plainId_quiet PySem.F.plain_extend_loop _, codeAny_extend_loopS W (by rw [hsz]; exact fits_of_scanBound hfew) s.heap.objs.size ?_ _ es.size 0 _ _ _ rfl (Nat.zero_le _)
    ⟨oth _ _ hIne hi, oth _ _ (Nat.ne_of_lt haS) (hk2 _ _ (hk1 _ _ ho)), fun p hp => oth _ _ (hobne p hp) (hob p hp).1⟩ hS4 (ItemsOf.nil _) fun s' acc' c' hm hS' hacc => ?_⟩
  · intro hmem
    rw [List.mem_cons, List.mem_cons, List.mem_map] at hmem
    rcases hmem with h | h | ⟨p, hp, h⟩
    · exact hIne h.symm
    · exact Nat.ne_of_lt haS h.symm
    · exact hobne p hp h
  · show wpAny _ A (load s.heap.objs.size >>= _) _ _ s'
    refine wpAny_bind (wpAny_load hS' ?_)
    have hav : acc'.toList = vs := by
      apply List.ext_getElem?
      intro j
      by_cases hj : j < es.size
      · have hj' : j < acc'.size := by rw [hacc.1]; exact hj
        have h1 : acc'.toList[j]? = some acc'[j] := by rw [Array.getElem?_toList]; exact Array.getElem?_eq_getElem hj'
        rw [h1]
        exact (hacc.2 j _ (Array.getElem?_eq_getElem hj')).symm
      · rw [List.getElem?_eq_none (by rw [Array.length_toList, hacc.1]; omega), List.getElem?_eq_none (by omega)]
    obtain ⟨h', g', d', tk', os'⟩ := s'
    have eg : g' = s.gens := hm.gens
    have ed : d' = d2 := hm.drawn
    have eo : os' = s.os := hm.os
    subst eg; subst ed; subst eo
    refine wpAny_pure ?_
    rw [hav]
    refine hQ h' d' tk' vs js hjs hjp (Heap.lt_size hS') fun b o e => ?_
    have hb : b < s.heap.objs.size := Heap.lt_size e
    refine hm.heap b o ?_ (oth b o (Nat.ne_of_lt hb) (hk2 _ _ (hk1 _ _ e)))
    have h0 : h1.objs.size ≤ I := hI
    simp only [List.mem_cons, List.not_mem_nil, or_false, not_or]
    exact ⟨Nat.ne_of_lt hb, Nat.ne_of_lt (Nat.lt_of_lt_of_le hb (Nat.le_trans (Nat.le_of_lt hz1) hI))⟩
end
end L2
set_option Elab.async false
set_option linter.all false
set_option maxRecDepth 100000
set_option exponentiation.threshold 2000
namespace L2
open PySem PySem.Spec PyProof.Rows
section
variable {prog : Program} {w : World} {A : Around} {E : Value → Shared → Prop} {s : Shared}
theorem sorted_tset {a : Addr} {ks : List Str} {Q : Value → Shared → Prop} (hh : A.handled = none) (T : TxSet prog w s.heap a ks) (h64 : ks.length < 64)
    (h : ∀ (p : Addr) (h' : Heap) (d' : Drawn) (tk : Nat) (out : Array Value) (ms : List Str) (e : Nat), StrsAre out.toList ms → ms.Perm ks → sortedS ms = true → s.heap.objs.size ≤ p → h'.get? p = some (seqObj "list" out e) →
      (∀ b o, s.heap.get? b = some o → h'.get? b = some o) → Q (.ref p) { s with heap := h', drawn := d', toks := tk }) :
    wpAny (model prog w) A (call (.builtin "sorted") [.ref a]) Q E s := by
  refine Calls.call_function_entry kind_sorted plain_sorted entry_sorted (args_sorted1 _) ?_
  unfold Builtin.«sorted»
  refine wpAny_bind (m := checkCount "sorted" 1 1 _) (wpAny_pure ?_)
  refine wpAny_bind (collect_tset (by simpa using hh) T fun h1 d1 tk1 vs js hv hp hz hk => ?_)
  have hvl : vs.length = ks.length := by rw [strsAre_len hv, hp.length_eq]
  refine wpAny_bind (wpAny_newList ?_ (by rw [sizeLine_eq]; omega))
  have hoL : (h1.push (seqObj "list" vs.toArray 0)).get? h1.objs.size = some (seqObj "list" vs.toArray 0) := Heap.get?_push_size _ rfl
  show wpAny _ _ (holding _ _ >>= _) _ _ { s with heap := h1.push (seqObj "list" vs.toArray 0), drawn := d1, toks := tk1 }
  refine wpAny_bind (wpAny_holding (wpAny_call_entry slot_list_sort ⟨_, hoL, rfl⟩ entry_list_sort (list_sort_treeK strKind_oneLt hoL hv.keysOf (fun v₁ v₂ rest e => keyKind_strs (by rw [← e]; exact hv)) (by omega) fun st' a1 a2 => ⟨_, rfl, ?_⟩) (args_list_sort _)))
  obtain ⟨ms, m1, m2, m3⟩ := sorted_out_str hv a1 a2
  obtain ⟨e, he⟩ := sortedHeap_at (out := (arrOf st').map (·.2)) hoL
  refine wpAny_pure ⟨_, rfl, h h1.objs.size _ d1 tk1 _ ms e m1 (m2.trans hp) m3 (Nat.le_of_lt hz) he fun b o eb => ?_⟩
  · have hb : b < h1.objs.size := Heap.lt_size (hk b o eb)
    rw [sortedHeap_old (Nat.ne_of_lt hb) (by rw [size_push']; exact Nat.lt_succ_of_lt hb)]
    exact Heap.get?_push_of_some _ (hk b o eb)
end
section
variable {X : Cx} {e : Expr} {te : TE} {pos p2 p3 p4 : Pos}
def tSortSet (K : PySem.W.Frag) (te : TE) : TE := fun σ H Q => te σ H fun x H1 => ∃ (a : Addr) (ts : List Str), [x] = [V.ref a] ∧ SqL K H1 a (ts.map V.str) ∧ ts.length < 64 ∧
  ∀ (p : Addr) (ms : List Str), ms.Nodup → (∀ x, x ∈ ms ↔ x ∈ ts) → ms.length ≤ ts.length → sortedS ms = true → H1 p = none → Q (.ref p) (upd H1 p (.lst (ms.map V.str)))
theorem pe_sortset (hc : X.calm = true) (he : PE X e te) (hg : Gl X "sorted") (hm : X.mg "sorted" = none) (hg2 : Gl X "set") (hm2 : X.mg "set" = none)
    (h1 : starEach [e] X.env = (false, eval e X.env) :: starEach [] X.env := by rfl)
    (h2 : starEach [.Call (.Name "set" p2) [e] [] p3] X.env = (false, eval (.Call (.Name "set" p2) [e] [] p3) X.env) :: starEach [] X.env := by rfl)
    (h3 : (backTo p3 (starEach [] X.env)).any (·.1) = false := by rfl) (h4 : (backTo pos (starEach [] X.env)).any (·.1) = false := by rfl) :
    PE X (.Call (.Name "sorted" p4) [.Call (.Name "set" p2) [e] [] p3] [] pos) (tSortSet X.K te) := by
  intro pins s σ H Q I h
  refine wpAny_Call_Name_kw (ld_blt I hg hm bt_sorted ?_ (by decide) (by decide))
  refine PyProof.Rows.callWith_builtin1 ?_ h2 h4
  rw [h2]
  show wpAny _ _ (spliced ((false, eval (.Call (.Name "set" p2) [e] [] p3) X.env) :: backTo pos (starEach [] X.env))) _ _ s
  refine Calls.spliced_cons ?_
  refine wpAny_Call_Name_kw (ld_blt I hg2 hm2 bt_set ?_ (by decide) (by decide))
  refine PyProof.Rows.callWith_type1 (thn (pa_cons he pa_nil h1 p3 pins s σ H (fun vs H1 => ∃ (a : Addr) (ts : List Str), vs = [.ref a] ∧ SqL X.K H1 a (ts.map V.str) ∧ ts.length < 64 ∧
    ∀ (p : Addr) (ms : List Str), ms.Nodup → (∀ x, x ∈ ms ↔ x ∈ ts) → ms.length ≤ ts.length → sortedS ms = true → H1 p = none → Q (.ref p) (upd H1 p (.lst (ms.map V.str)))) I ?_) fun us s1 ⟨vs, H1, I1, r1, a, ts, hv, hq, hn, q⟩ => ?_) h1 h3
  · exact h
  subst hv
  obtain ⟨u1, rfl, v1⟩ := vals1 r1
  cases v1
  obtain ⟨its, rv, ht, hz⟩ := I1.list hq
  refine call_set_strs (I1.ok.hd hc) ht.isList (ts := ts) (by simpa using strsAre_of rv) (by unfold scanBound; omega) fun h' tk ks hT hl hmem kp => ?_
  have I2 : Inv X pins σ H1 { s1 with heap := h', toks := tk } := I1.kept fun b o e => kp b o (Heap.lt_size e) e
  refine Calls.spliced_nil ?_
  refine sorted_tset (s := { s1 with heap := h', toks := tk }) (I1.ok.hd hc) hT (by omega) fun p h2 d2 tk2 out ms ee a1 a2 a3 a4 a5 a6 => ?_
  have hn1 : H1 p = none := I2.hok.fresh a4
  have I3 : Inv X pins σ H1 { s1 with heap := h', drawn := d2, toks := tk } := ⟨I2.ok, I2.os, I2.bare, I2.base, I2.loc, I2.cell, I2.free, I2.freeC, I2.pin, I2.hok, I2.len⟩
  refine ⟨.ref p, upd H1 p (.lst (ms.map V.str)), I3.laid (t' := tk2) a6 a4 ?_, rfl, q p ms (a2.nodup_iff.mpr hT.nodup) (fun x => (a2.mem_iff).trans (hmem x)) (by rw [a2.length_eq]; exact hl) a3 hn1⟩
  have hlen : ms.length ≤ ts.length := by rw [a2.length_eq]; exact hl
  exact ⟨by rw [List.length_map, sizeLine_eq]; omega, out.toList, ee, vals_of_strs a1, by simpa [seqObj] using a5⟩
end
end L2
set_option Elab.async false
set_option linter.all false
set_option maxRecDepth 100000
set_option exponentiation.threshold 2000
namespace L2
open PySem PySem.Spec PyProof.Rows
namespace FS
end FS
section
variable {prog : Program} {w : World} {A : Around} {E : Value → Shared → Prop} {s : Shared}
variable {κ : Type} [DecidableEq κ] {knd : PySem.KeyKind prog w κ}
end
section
variable {X : Cx}
end
end L2
set_option Elab.async false
set_option linter.all false
set_option maxRecDepth 100000
set_option exponentiation.threshold 2000
namespace L2
open PySem PySem.Spec PyProof.Rows
section
variable {X : Cx}
end
end L2
set_option Elab.async false
set_option linter.all false
set_option maxRecDepth 100000
set_option exponentiation.threshold 2000
namespace L2
open PySem PySem.Spec PyProof.Rows
def endV : V → Bool
  | .non => true
  | .int _ => true
  | _ => false
def leV : V → V → Bool
  | .int i, .int j => decide (i ≤ j)
  | _, _ => true
def isSpanV (H : Hp) : V → Bool
  | .ref a => match H a with
    | some (.tup [x, y]) => endV x && endV y && leV x y
    | _ => false
  | _ => false
def spWhole (K : PySem.W.Frag) : Sp := fun vs H Q _ => ∃ (v : V) (t : String), vs = [v] ∧ TyOf K H v (.type t) ∧ Q (.bl (t == "int")) H
def spEnd (K : PySem.W.Frag) : Sp := fun vs H Q _ => ∃ (v : V) (t : String), vs = [v] ∧ TyOf K H v (.type t) ∧ Q (.bl (endV v)) H
def PairTy (K : PySem.W.Frag) (H : Hp) (v : V) : Prop := ∀ a x y, v = .ref a → H a = some (.tup [x, y]) → ∃ t1 t2, TyOf K H x (.type t1) ∧ TyOf K H y (.type t2)
def spIsSpan (K : PySem.W.Frag) : Sp := fun vs H Q _ => ∃ (v : V) (t : String), vs = [v] ∧ TyOf K H v (.type t) ∧ PairTy K H v ∧ Q (.bl (isSpanV H v)) H
def apart : Option Int → Option Int → Bool
  | some l, some h => decide (h < l)
  | _, _ => false
theorem pw10 {j : Int} (h0 : 0 ≤ j) (h1 : j ≤ 1000) : CPowB 10 j := ⟨h0, h1, by decide⟩
def letterOk (c : Nat) : Bool := decide (97 ≤ c) && decide (c ≤ 122)
structure FieldOk (x : Str) : Prop where
  one : 1 ≤ x.length
  eight : x.length ≤ 8
  all : ∀ c ∈ x.cps.toList, letterOk c = true
theorem cps_a : ("a" : Str).cps.toList = [97] := by decide +kernel
theorem cps_z : ("z" : Str).cps.toList = [122] := by decide +kernel
def ltF (f g : Str) : Prop := f.cps.toList < g.cps.toList
end L2
set_option Elab.async false
set_option linter.all false
set_option maxRecDepth 100000
set_option exponentiation.threshold 2000
namespace L2
open PySem PySem.Spec PyProof.Rows
theorem str_ext {x y : Str} (h : x.cps.toList = y.cps.toList) : x = y := by
  obtain ⟨a⟩ := x
  obtain ⟨b⟩ := y
  congr
  exact Array.toList_inj.mp h
theorem ltF_tri {x y : Str} (h : ¬ ltF x y) (n : x ≠ y) : ltF y x := by
  unfold ltF at *
  rcases Std.lt_trichotomy (α := List Nat) x.cps.toList y.cps.toList with h1 | h1 | h1
  · exact absurd h1 h
  · exact absurd (str_ext h1) n
  · exact h1
theorem ltF_trans {x y z : Str} (h : ltF x y) (h2 : ltF y z) : ltF x z := List.lt_trans h h2
theorem rising_lt : ∀ (r : List Str) (p : Str), risingS p r = true → (p :: r).Nodup → (p :: r).Pairwise ltF
  | [], p, _, _ => List.pairwise_singleton _ _
  | x :: r, p, h, n => by
    unfold risingS at h
    rw [Bool.and_eq_true, Bool.not_eq_true', ltCps_eq, decide_eq_false_iff_not] at h
    rw [List.nodup_cons] at n
    have px : ltF p x := ltF_tri (x := x) (y := p) h.1 (fun e => n.1 (by rw [← e]; exact List.mem_cons_self))
    have ih := rising_lt r x h.2 n.2
    rw [List.pairwise_cons]
    refine ⟨fun y hy => ?_, ih⟩
    rcases List.mem_cons.mp hy with rfl | hy
    · exact px
    · exact ltF_trans px ((List.pairwise_cons.mp ih).1 y hy)
theorem sorted_lt {ms : List Str} (h : sortedS ms = true) (n : ms.Nodup) : ms.Pairwise ltF := by
  cases ms with
  | nil => exact .nil
  | cons x r => exact rising_lt r x h n
def spLawField : Sp := fun vs H Q _ => ∃ (b g l : Addr) (n : Int), vs = [.ref b] ∧ Bag H b g l n ∧ n ≤ 10 ^ 8 ∧ ∀ (x : Str) (H' : Hp), FieldOk x → Bag H' b g l (n + 12) → SameB b g H H' → Q (.str x) H'
theorem az : ("abcdefghijklmnopqrstuvwxyz" : Str).cps.toList = (List.range 26).map (· + 97) := by decide +kernel
theorem az_at {r : Int} (h0 : 0 ≤ r) (h1 : r < 26) : ∃ c, atI ("abcdefghijklmnopqrstuvwxyz" : Str).cps.toList r = some c ∧ letterOk c = true := by
  rw [az]
  obtain ⟨k, rfl⟩ : ∃ k : Nat, r = k := ⟨r.toNat, by omega⟩
  have hk : k < 26 := by omega
  refine ⟨k + 97, ?_, ?_⟩
  · refine atI_nat ?_
    rw [List.getElem?_map, List.getElem?_range hk]
    rfl
  · unfold letterOk
    rw [Bool.and_eq_true]
    exact ⟨decide_eq_true (by omega), decide_eq_true (by omega)⟩
theorem join_signs : ∀ (cs : List Nat), (Txt.join ("" : Str) (cs.map fun c => (⟨#[c]⟩ : Str))).cps.toList = cs
  | [] => rfl
  | [c] => rfl
  | c :: d :: r => by
    have ih := join_signs (d :: r)
    have e : ∀ (ts : List Str), Txt.join ("" : Str) ts = Str.join ("" : Str) ts := fun ts => StrLaws.glued_eq_join _ _
    rw [e] at ih ⊢
    show ((⟨#[c]⟩ : Str) ++ ("" : Str) ++ Str.join ("" : Str) ((d :: r).map fun c => (⟨#[c]⟩ : Str))).cps.toList = _
    have : ((⟨#[c]⟩ : Str) ++ ("" : Str) ++ Str.join ("" : Str) ((d :: r).map fun c => (⟨#[c]⟩ : Str))).cps.toList = c :: (Str.join ("" : Str) ((d :: r).map fun c => (⟨#[c]⟩ : Str))).cps.toList := by
      show (#[c] ++ #[] ++ _ : Array Nat).toList = _
      simp
    rw [this, ih]
theorem join_ok (cs : List Nat) (h : cs.length ≤ 1000) : JoinOk ("" : Str) (cs.map fun c => (⟨#[c]⟩ : Str)) = true := by
  unfold JoinOk
  rw [Bool.not_eq_true']
  refine StrLaws.joinFits (B := 1) (fun y hy => ?_) ?_
  · obtain ⟨c, _, rfl⟩ := List.mem_map.mp hy
    exact Nat.le_refl 1
  · rw [List.length_map]
    show cs.length * 1 + cs.length * 0 ≤ _
    omega
theorem join_field {cs : List Nat} (h1 : 1 ≤ cs.length) (h8 : cs.length ≤ 8) (ok : ∀ c ∈ cs, letterOk c = true) : FieldOk (Txt.join ("" : Str) (cs.map fun c => (⟨#[c]⟩ : Str))) := by
  have e := join_signs cs
  have hl : (Txt.join ("" : Str) (cs.map fun c => (⟨#[c]⟩ : Str))).length = cs.length := by
    show Array.size _ = _
    rw [← Array.length_toList, e]
  exact ⟨by rw [hl]; exact h1, by rw [hl]; exact h8, by rw [e]; exact ok⟩
theorem SameB.off {b g p : Addr} {H H' : Hp} {o : HO} (s : SameB b g H H') (hp : H p = none) : SameB b g H (upd H' p o) := fun a x h n1 n2 => by
  have : a ≠ p := fun e => by rw [e, hp] at h; cases h
  rw [upd_ne this]
  exact s a x h n1 n2
theorem Bag.off {b g l p : Addr} {n : Int} {H : Hp} {o : HO} (B : Bag H b g l n) (pb : p ≠ b) (pg : p ≠ g) (pl : p ≠ l) : Bag (upd H p o) b g l n := by
  obtain ⟨gs, ls, c, st, e1, e2, e3, r⟩ := B.ex
  exact ⟨⟨gs, ls, c, st, by rw [upd_ne pb.symm]; exact e1, by rw [upd_ne pg.symm]; exact e2, by rw [upd_ne pl.symm]; exact e3, r⟩, B.gl⟩
theorem SameB.none {b g p : Addr} {H H' : Hp} (s : SameB b g H H') (hp : H' p = none) (pb : p ≠ b) (pg : p ≠ g) : H p = none := by
  cases e : H p with
  | none => rfl
  | some o => rw [s p o e pb pg] at hp; cases hp
end L2
set_option Elab.async false
set_option linter.all false
set_option maxRecDepth 100000
set_option exponentiation.threshold 2000
namespace L2
open PySem PySem.Spec PyProof.Rows
end L2
set_option Elab.async false
set_option linter.all false
set_option maxRecDepth 100000
set_option maxHeartbeats 1000000
namespace L2
open PySem PySem.Spec PyProof.Rows
section
variable {P : Program} {w : World} {base : Heap} {l : List Env} {H H' : Hp} {s0 s' : Shared} {a C t : Addr} {B h' : Heap}
end
section
variable {X : Cx} {pins : List (Addr × Obj)} {σ : St} {H H' : Hp} {s s' : Shared} {a C : Addr}
end
def del (H : Hp) (a : Addr) : Hp := fun b => if b = a then none else H b
section
variable {X : Cx} {pins : List (Addr × Obj)} {σ : St} {H : Hp} {s : Shared} {e C : Addr}
end
end L2
set_option Elab.async false
set_option linter.all false
set_option maxRecDepth 100000
set_option maxHeartbeats 1000000
namespace L2
open PySem PySem.Spec PyProof.Rows
section
variable {prog : Program} {w : World} {A : Around} {E : Value → Shared → Prop} {h : Heap} {g : Array GenState} {d : Drawn} {t : Nat} {os : OsState} {nm q : Str} {C N : Addr} {bs bm bmB : List Value} {hdct : Bool} {sn : List Str} {sub : List Value}
variable {ab : Bool} {col : Option Bool} {dd : Option Addr} {k0 k1 k2 k3 k5 : Option Value} {B newId initId : String} {rest : List Value}
end
end L2
set_option Elab.async false
set_option linter.all false
set_option maxRecDepth 100000
set_option maxHeartbeats 1000000
namespace L2
open PySem PySem.Spec PyProof.Rows
section
variable {prog : Program} {w : World} {A : Around} {E : Value → Shared → Prop} {h : Heap} {g : Array GenState} {d : Drawn} {t : Nat} {os : OsState} {nm q : Str} {C N : Addr} {bs bm bmB : List Value} {hdct : Bool} {sn : List Str} {sub : List Value}
variable {ab : Bool} {col : Option Bool} {dd : Option Addr} {k0 k1 k2 k3 k5 : Option Value} {B newId initId : String} {rest : List Value}
end
section
variable {X : Cx}
end
end L2
set_option Elab.async false
set_option linter.all false
set_option maxRecDepth 100000
set_option maxHeartbeats 1000000
namespace L2
open PySem PySem.Spec PyProof.Rows
section
variable {P : Program} {w : World} {K : PySem.W.Frag} {mg : Str → Option Value} {base : Heap} {N : List Str} {qual : Str} {scope : Scope} {f : Addr} {cd : Value} {A : Around} {outer : List Env} {s : Shared} {H : Hp} {E : XK}
end
section
variable {P : Program} {w : World} {K : PySem.W.Frag} {mg : Str → Option Value} {base : Heap} {N : List Str} {qual : Str} {scope : Scope} {f : Addr} {cd : Value} {A : Around} {outer : List Env} {s : Shared} {H : Hp} {E : XK}
end
section
variable {X : Cx} {E : XK} {C fI : Addr} {fd : FuncData} {k : Nat} {x : Str} {e1 : Expr} {t : TA} {np cpos pos : Pos}
end
end L2
set_option Elab.async false
set_option linter.all false
set_option maxRecDepth 100000
set_option maxHeartbeats 1000000
namespace L2
open PySem PySem.Spec PyProof.Rows
section
variable {X : Cx} {pins : List (Addr × Obj)} {σ : St} {H : Hp} {s : Shared} {a : Addr} {o : HO}
end
section
variable {X : Cx} {pins : List (Addr × Obj)} {σ : St} {H : Hp} {s : Shared} {a : Addr}
end
section
variable {X : Cx} {pins pins' : List (Addr × Obj)} {σ : St} {H : Hp} {s : Shared} {RR : St → Value → Hp → Prop}
end
section
variable {P : Program} {w : World} {base : Heap} {l : List Env} {H H' : Hp} {s0 s' : Shared} {a C t : Addr} {B : Heap}
end
section
variable {M : Model} {A : Around} {E : Value → Shared → Prop} {h : Heap} {g : Array GenState} {d : Drawn} {t : Nat} {os : OsState} {nm q nm0 q0 : Str} {C N C0 N0 e : Addr} {bs bm bs0 bm0 : List Value} {hdct hdct0 : Bool} {sn sn0 : List Str} {sub sub0 : List Value}
variable {ab ab0 : Bool} {col col0 : Option Bool} {dd dd0 : Option Addr} {k0 k1 k2 k3 k5 j0 j1 j2 j3 j5 : Option Value} {newId newId0 : String} {oe : Obj}
end
section
variable {X : Cx} {C0 : Addr} {x n : Str} {i : Nat} {body suite : List Stmt} {b₀ : Stmt} {np hpos pos : Pos} {tb : (St → Value → Hp → Prop) → TS} {ts : TS}
end
end L2
set_option Elab.async false
set_option linter.all false
set_option maxRecDepth 100000
set_option maxHeartbeats 1000000
namespace L2
open PySem PySem.Spec PyProof.Rows
section
variable {X : Cx}
end
end L2
set_option Elab.async false
set_option linter.all false
set_option maxRecDepth 100000
set_option maxHeartbeats 1000000
namespace L2
open PySem PySem.Spec PyProof.Rows
open PySem.W (Looks looks_findIn looks_mroIn looks_typeIn)
section
variable {prog : Program} {w : World} {A : Around} {E : Value → Shared → Prop} {K : PySem.W.Frag} {h : Heap} {g : Array GenState} {d : Drawn} {t : Nat} {os : OsState} {a C : Addr}
end
section
variable {X : Cx}
end
end L2
set_option Elab.async false
set_option linter.all false
set_option maxRecDepth 100000
set_option exponentiation.threshold 2000
namespace L2
open PySem PySem.Spec PyProof.Rows
inductive DX where
  | non
  | bl (b : Bool)
  | int (i : Int)
  | str (x : Str)
  | lst (ds : List DX)
  | tup (ds : List DX)
  | dic
mutual
def RepX (H : Hp) : DX → V → Prop
  | .non, v => v = .non
  | .bl b, v => v = .bl b
  | .int i, v => v = .int i
  | .str x, v => v = .str x ∧ x.length ≤ 900
  | .lst ds, v => ∃ a xs, v = .ref a ∧ H a = some (.lst xs) ∧ ds.length ≤ 900 ∧ RepXs H ds xs
  | .tup ds, v => ∃ a xs, v = .ref a ∧ H a = some (.tup xs) ∧ ds.length ≤ 900 ∧ RepXs H ds xs
  | .dic, v => ∃ a, v = .ref a ∧ H a = some (.dK [])
def RepXs (H : Hp) : List DX → List V → Prop
  | [], xs => xs = []
  | d :: ds, xs => ∃ x r, xs = x :: r ∧ RepX H d x ∧ RepXs H ds r
end
mutual
theorem RepX.same {H H' : Hp} (s : Same H H') : ∀ (d : DX) {v : V}, RepX H d v → RepX H' d v
  | .non, v, h => by rw [RepX] at *; exact h
  | .bl b, v, h => by rw [RepX] at *; exact h
  | .int i, v, h => by rw [RepX] at *; exact h
  | .str x, v, h => by rw [RepX] at *; exact h
  | .lst ds, v, h => by rw [RepX] at *; obtain ⟨a, xs, e, h1, h0, h2⟩ := h; exact ⟨a, xs, e, s _ _ h1, h0, RepXs.same s ds h2⟩
  | .tup ds, v, h => by rw [RepX] at *; obtain ⟨a, xs, e, h1, h0, h2⟩ := h; exact ⟨a, xs, e, s _ _ h1, h0, RepXs.same s ds h2⟩
  | .dic, v, h => by rw [RepX] at *; obtain ⟨a, e, h1⟩ := h; exact ⟨a, e, s _ _ h1⟩
theorem RepXs.same {H H' : Hp} (s : Same H H') : ∀ (ds : List DX) {xs : List V}, RepXs H ds xs → RepXs H' ds xs
  | [], xs, h => by rw [RepXs] at *; exact h
  | d :: ds, xs, h => by rw [RepXs] at *; obtain ⟨x, r, e, h1, h2⟩ := h; exact ⟨x, r, e, RepX.same s d h1, RepXs.same s ds h2⟩
end
mutual
def pd : DX → PyData
  | .non => .none
  | .bl b => .bool b
  | .int i => .int i
  | .str x => .str x
  | .lst ds => .list (pds ds)
  | .tup ds => .tuple (pds ds)
  | .dic => .dict []
def pds : List DX → List PyData
  | [] => []
  | d :: ds => pd d :: pds ds
end
def atomD : DX → Bool
  | .lst _ => false
  | .tup _ => false
  | _ => true
section
variable {X : Cx} {pins : List (Addr × Obj)} {σ : St} {H : Hp} {s : Shared}
mutual
theorem reads_of (I : Inv X pins σ H s) : ∀ (d : DX) {v : V} {u : Value}, RepX H d v → RelV v u → ∃ as, Reads s.heap u (pd d) as ∧ (atomD d = true → sysModules ∉ as)
  | .non, v, u, h, r => by rw [RepX] at h; subst h; cases (show u = Value.none from r); rw [pd]; exact ⟨[], .none, fun _ => by simp⟩
  | .bl b, v, u, h, r => by rw [RepX] at h; subst h; cases (show u = Value.bool b from r); rw [pd]; exact ⟨[], .bool b, fun _ => by simp⟩
  | .int i, v, u, h, r => by rw [RepX] at h; subst h; obtain ⟨t, e⟩ := (show ∃ t, u = Value.int i t from r); subst e; rw [pd]; exact ⟨[], .int i t, fun _ => by simp⟩
  | .str x, v, u, h, r => by rw [RepX] at h; obtain ⟨rfl, _⟩ := h; obtain ⟨t, e⟩ := (show ∃ t, u = Value.str x t from r); subst e; rw [pd]; exact ⟨[], .str x t, fun _ => by simp⟩
  | .lst ds, v, u, h, r => by
    rw [RepX] at h
    obtain ⟨a, xs, rfl, h1, _, h2⟩ := h
    cases (show u = Value.ref a from r)
    obtain ⟨_, its, n, rv, hg⟩ := (show ObjOk X.prog X.w H s.heap a (.lst xs) from I.hok a _ h1)
    obtain ⟨as, ra, _⟩ := reads_all I ds h2 rv
    rw [pd]
    exact ⟨a :: as, .list hg rfl rfl ra, fun z => by cases z⟩
  | .tup ds, v, u, h, r => by
    rw [RepX] at h
    obtain ⟨a, xs, rfl, h1, _, h2⟩ := h
    cases (show u = Value.ref a from r)
    obtain ⟨_, its, rv, o, hg, hc, _, n, hd⟩ := (show ObjOk X.prog X.w H s.heap a (.tup xs) from I.hok a _ h1)
    obtain ⟨as, ra, _⟩ := reads_all I ds h2 rv
    rw [pd]
    exact ⟨as, .tuple hg hc hd ra, fun z => by cases z⟩
  | .dic, v, u, h, r => by
    rw [RepX] at h
    obtain ⟨a, rfl, h1⟩ := h
    cases (show u = Value.ref a from r)
    obtain ⟨_, hS, vs, rk, o, es, ep, hg, hx, hd, hk, hp, _⟩ := dk_of I.hok h1
    cases rk
    have ee : es.toList = [] := by
      cases z : es.toList with
      | nil => rfl
      | cons y ys => rw [z] at hp; cases hp
    rw [pd]
    refine ⟨a :: [] ++ [], .dict (kvs := []) hg hx.1 hd (by rw [ee]; exact .nil) (by rw [ee]; exact .nil), fun _ z => ?_⟩
    simp at z
    rw [← z] at hS
    simp at hS
theorem reads_all (I : Inv X pins σ H s) : ∀ (ds : List DX) {xs : List V} {us : List Value}, RepXs H ds xs → Vals xs us → ∃ as, ReadsAll s.heap us (pds ds) as ∧ ((∀ d ∈ ds, atomD d = true) → sysModules ∉ as)
  | [], xs, us, h, r => by rw [RepXs] at h; subst h; cases r; rw [pds]; exact ⟨[], .nil, fun _ => by simp⟩
  | d :: ds, xs, us, h, r => by
    rw [RepXs] at h
    obtain ⟨x, ys, rfl, h1, h2⟩ := h
    cases r with
    | cons r1 r2 =>
      obtain ⟨as, ra, na⟩ := reads_of I d h1 r1
      obtain ⟨bs, rb, nb⟩ := reads_all I ds h2 r2
      rw [pds]
      refine ⟨as ++ bs, .cons ra rb, fun z w => ?_⟩
      rcases List.mem_append.mp w with w | w
      · exact na (z d (List.mem_cons_self ..)) w
      · exact nb (fun e he => z e (List.mem_cons_of_mem _ he)) w
end
end
end L2
set_option Elab.async false
set_option linter.all false
set_option maxRecDepth 100000
set_option exponentiation.threshold 2000
namespace L2
open PySem PySem.Spec PyProof.Rows
section
variable {X : Cx}
end
end L2
set_option Elab.async false
set_option linter.all false
set_option maxRecDepth 100000
set_option exponentiation.threshold 2000
namespace L2
open PySem PySem.Spec PyProof.Rows
section
variable {X : Cx} {pins : List (Addr × Obj)} {σ : St} {H : Hp} {s : Shared}
mutual
theorem shK (I : Inv X pins σ H s) : ∀ (d : DX) {v : V} {u : Value}, RepX H d v → RelV v u → (pd d).showable = true → (pd d).shown.length ≤ sizeLine → ∃ bs, ReadAtMost s.heap (pd d).depth bs ∧ ReprK X.prog X.w bs s.heap (pd d).depth u (pd d).shown
  | .non, v, u, h, r, hs, hz => let ⟨as, ra, na⟩ := reads_of I _ h r; ReprK.of_reads ra hs (fun _ => na rfl) hz
  | .bl _, v, u, h, r, hs, hz => let ⟨as, ra, na⟩ := reads_of I _ h r; ReprK.of_reads ra hs (fun _ => na rfl) hz
  | .int _, v, u, h, r, hs, hz => let ⟨as, ra, na⟩ := reads_of I _ h r; ReprK.of_reads ra hs (fun _ => na rfl) hz
  | .str _, v, u, h, r, hs, hz => let ⟨as, ra, na⟩ := reads_of I _ h r; ReprK.of_reads ra hs (fun _ => na rfl) hz
  | .dic, v, u, h, r, hs, hz => let ⟨as, ra, na⟩ := reads_of I _ h r; ReprK.of_reads ra hs (fun _ => na rfl) hz
  | .lst ds, v, u, h, r, hs, hz => by
    obtain ⟨as, ra, _⟩ := reads_of I _ h r
    rw [RepX] at h
    obtain ⟨a, xs, rfl, h1, _, h2⟩ := h
    cases (show u = Value.ref a from r)
    obtain ⟨_, its, n, rv, hg⟩ := (show ObjOk X.prog X.w H s.heap a (.lst xs) from I.hok a _ h1)
    rw [pd] at ra hs hz ⊢
    have hz' : (listText (PyData.shownAll (pds ds))).length ≤ sizeLine := by simpa only [PyData.shown] using hz
    obtain ⟨bs, hb, hk⟩ := shKs I ds h2 rv (by simpa [PyData.showable] using hs) (fun t ht => Nat.le_trans (listText_mem_le ht) hz')
    have hna : a ∉ bs := not_mem_of_deeper ra (by simp only [PyData.depth]; omega) hb
    refine ⟨a :: bs, ReadAtMost.cons ra (by simp only [PyData.depth]; omega) hb, ?_⟩
    simp only [PyData.depth, PyData.shown]
    cases its with
    | nil =>
      have e := hk.length_eq
      cases z : PyData.shownAll (pds ds) with
      | nil => rw [listText_nil]; exact ReprK.listEmpty hg rfl rfl
      | cons y ys => rw [z] at e; cases e
    | cons x l => exact ReprK.list hg rfl rfl hna (by simpa using hk.length_eq) (fun i y e => hk.item i y (by simpa using e))
  | .tup ds, v, u, h, r, hs, hz => by
    obtain ⟨as, ra, _⟩ := reads_of I _ h r
    rw [RepX] at h
    obtain ⟨a, xs, rfl, h1, _, h2⟩ := h
    cases (show u = Value.ref a from r)
    obtain ⟨_, its, rv, o, hg, hc, _, n, hd⟩ := (show ObjOk X.prog X.w H s.heap a (.tup xs) from I.hok a _ h1)
    rw [pd] at ra hs hz ⊢
    have hz' : (tupleText (PyData.shownAll (pds ds))).length ≤ sizeLine := by simpa only [PyData.shown] using hz
    obtain ⟨bs, hb, hk⟩ := shKs I ds h2 rv (by simpa [PyData.showable] using hs) (fun t ht => Nat.le_trans (tupleText_mem_le ht) hz')
    have hna : a ∉ bs := not_mem_of_deeper ra (by simp only [PyData.depth]; omega) hb
    refine ⟨a :: bs, ReadAtMost.cons ra (by simp only [PyData.depth]; omega) hb, ?_⟩
    simp only [PyData.depth, PyData.shown]
    exact ReprK.tuple hg hc hd hna hk
theorem shKs (I : Inv X pins σ H s) : ∀ (ds : List DX) {xs : List V} {us : List Value}, RepXs H ds xs → Vals xs us → PyData.showableAll (pds ds) = true → (∀ t ∈ PyData.shownAll (pds ds), t.length ≤ sizeLine) →
    ∃ bs, ReadAtMost s.heap (PyData.depthAll (pds ds)) bs ∧ ReprAllK X.prog X.w bs s.heap (PyData.depthAll (pds ds)) us (PyData.shownAll (pds ds))
  | [], xs, us, h, r, _, _ => by
    rw [RepXs] at h
    subst h
    cases r
    rw [pds]
    exact ⟨[], (fun _ h => nomatch h), by simp only [PyData.shownAll]; exact .nil⟩
  | d :: ds, xs, us, h, r, hs, hz => by
    rw [RepXs] at h
    obtain ⟨x, ys, rfl, h1, h2⟩ := h
    rw [pds] at hs hz ⊢
    have hs' : (pd d).showable = true ∧ PyData.showableAll (pds ds) = true := by simpa [PyData.showableAll] using hs
    cases r with
    | cons r1 r2 =>
      obtain ⟨b1, hb1, k1⟩ := shK I d h1 r1 hs'.1 (hz _ (by simp only [PyData.shownAll]; exact List.mem_cons_self ..))
      obtain ⟨b2, hb2, k2⟩ := shKs I ds h2 r2 hs'.2 (fun t ht => hz t (by simp only [PyData.shownAll]; exact List.mem_cons_of_mem _ ht))
      refine ⟨b1 ++ b2, ?_, ?_⟩
      · simp only [PyData.depthAll]
        exact (hb1.mono (Nat.le_max_left _ _)).append (hb2.mono (Nat.le_max_right _ _))
      · simp only [PyData.depthAll, PyData.shownAll]
        exact .cons ((k1.more fun b hb => List.mem_append_left _ hb).level_le (Nat.le_max_left _ _)) (k2.more_le (fun b hb => List.mem_append_right _ hb) (Nat.le_max_right _ _))
end
end
end L2
set_option Elab.async false
set_option linter.all false
set_option maxRecDepth 100000
namespace L2
open PySem PySem.Spec PyProof.Rows
open PySem.AutoSeq1 (wpAny_loadPart')
open PySem.MeetsSeq PySem.MeetsSeq2 PySem.MeetsSeq3 PySem.SeqRoads2
def EqIn (P : Program) (w : World) (A : Around) (s : Shared) (y x : Value) : Prop := ∀ (E : Value → Shared → Prop) (Q : Bool → Shared → Prop), Q true s → wpAny (model P w) A (eqBool y x) Q E s
theorem EqIn.of {P : Program} {w : World} {A : Around} {s : Shared} {y x : Value} (h : SeqAt.EqAt A s y x true) : EqIn P w A s y x := fun E Q q => h P w E Q q
section
variable {P : Program} {w : World}
theorem inList_loop (l b : Addr) (items items2 : Array Value) (n n2 : Nat) (dd dd2 : Option Addr) (sl sl2 : Array (Option Value)) (hsz : items.size = items2.size) (k : Nat) :
    ∀ i : Nat, items.size - i = k → ∀ (A : Around) (R : Result → Shared → Prop) (s : Shared), s.heap.get? l = some { cls := .type "list", dict := dd, data := .seq items n, slots := sl } → s.heap.get? b = some { cls := .type "list", dict := dd2, data := .seq items2 n2, slots := sl2 } →
      (∀ j (h1 : j < items.size) (h2 : j < items2.size), EqIn P w A.in1 s items[j] items2[j]) → R (.ok (.ret (.bool true))) s →
      wpAny (model P w) A.in1 (Builtin.«list.__eq__.loop» ⟨[.ref l, .ref b, rawInt i, rawInt 2], []⟩) (fun fin s' => match fin with | .done f => R (.ok f) s' | .again c' => c'.quiet = true ∧ codeAny (model P w) A c' R s') (fun e s' => R (.error e) s') s := by
  induction k with
  | zero =>
    intro i hk A R s hl hb he h
    obtain ⟨hp, g, d, tk, os⟩ := s
    wp_walk using wpAny_loadPart' hl, wpAny_loadPart' hb
    have o1 : items[((i : Nat) : Int).toNat]? = none := by simp; omega
    have o2 : items2[((i : Nat) : Int).toNat]? = none := by simp; omega
    rw [o1, o2]
    wp_walk using wpAny_loadPart' hl, wpAny_loadPart' hb
    show R (.ok (.ret (.bool (items.size == items2.size)))) _
    rw [hsz]
    simpa using h
  | succ k ih =>
    intro i hk A R s hl hb he h
    obtain ⟨hp, g, d, tk, os⟩ := s
    wp_walk using wpAny_loadPart' hl, wpAny_loadPart' hb
    have lt1 : i < items.size := by omega
    have lt2 : i < items2.size := by omega
    have o1 : items[((i : Nat) : Int).toNat]? = some items[i] := by simp [lt1]
    have o2 : items2[((i : Nat) : Int).toNat]? = some items2[i] := by simp [lt2]
    have hc : ((i : Int) + 1) = ((i + 1 : Nat) : Int) := by push_cast; rfl
    rw [o1, o2]
    refine wpAny_bind (he i lt1 lt2 _ _ ?_)
    wp_walk
    rw [hc]
    exact ⟨plainId_quiet plain_eq_loop _, codeAny_builtin entry_eq_loop (by
      rw [Around.under_plainId plain_eq_loop _]
      exact ih (i + 1) (by omega) A R _ hl hb he h)⟩
theorem inList (l b : Addr) (items items2 : Array Value) (n n2 : Nat) (dd dd2 : Option Addr) (sl sl2 : Array (Option Value)) (hsz : items.size = items2.size) (A : Around) (R : Result → Shared → Prop) (s : Shared)
    (hl : s.heap.get? l = some { cls := .type "list", dict := dd, data := .seq items n, slots := sl }) (hb : s.heap.get? b = some { cls := .type "list", dict := dd2, data := .seq items2 n2, slots := sl2 })
    (he : ∀ j (h1 : j < items.size) (h2 : j < items2.size), EqIn P w A.in1 s items[j] items2[j]) (h : R (.ok (.ret (.bool true))) s) :
    wpAny (model P w) A.in1 (Builtin.«list.__eq__» ⟨[.ref l, .ref b], []⟩) (fun fin s' => match fin with | .done f => R (.ok f) s' | .again c' => c'.quiet = true ∧ codeAny (model P w) A c' R s') (fun e s' => R (.error e) s') s := by
  obtain ⟨hp, g, d, tk, os⟩ := s
  have f3 := AutoSeq1.sub_list_list
  have hne : ¬ (items.size != items2.size) = true := by simp [hsz]
  wp_walk using wpAny_loadPart' hl, wpAny_loadPart' hb
  exact ⟨plainId_quiet plain_eq_loop _, codeAny_builtin entry_eq_loop (by
    rw [Around.under_plainId plain_eq_loop _]
    exact inList_loop l b items items2 n n2 dd dd2 sl sl2 hsz _ 0 rfl A R _ hl hb he h)⟩
theorem rc_list {l b : Addr} {items items2 : Array Value} {A : Around} {s : Shared} {E : Value → Shared → Prop} {Q : Value → Shared → Prop} (hl : s.heap.IsList l items) (hb : s.heap.IsList b items2) (hsz : items.size = items2.size) (hu : A.units < cLine)
    (he : ∀ j (h1 : j < items.size) (h2 : j < items2.size), EqIn P w A.in1 s items[j] items2[j]) (h : Q (.bool true) s) : wpAny (model P w) A (richCompare .Eq (.ref l) (.ref b)) Q E s := by
  obtain ⟨⟨c1, dd, data, sl⟩, ho, hc, n, hd⟩ := id hl
  obtain ⟨⟨c2, dd2, data2, sl2⟩, ho2, hc2, n2, hd2⟩ := id hb
  simp only at hc hd hc2 hd2
  subst hc hd hc2 hd2
  refine wpAny_richCompare_same_room (op := .Eq) ⟨_, ho, rfl⟩ ⟨_, ho2, rfl⟩ F.slot_list_eq ?_ hu
  refine wpAny_call (codeAny_call_builtin F.slot_list_eq.plain F.entry_list_eq (F.slot_list_eq.check _ _ _ _ _ _ _ _ ⟨_, ho, rfl⟩ (F.args_list_eq_2 _ _) ?_))
  exact inList l b items items2 n n2 dd dd2 sl sl2 hsz A (wants (fun v s' => v ≠ .notImplemented ∧ Q v s') E) s ho ho2 he (show Value.bool true ≠ Value.notImplemented ∧ Q (.bool true) s from ⟨(fun x => nomatch x), h⟩)
theorem rc_tuple {l b : Addr} {items items2 : Array Value} {A : Around} {s : Shared} {E : Value → Shared → Prop} {Q : Value → Shared → Prop} (hl : s.heap.IsTuple l items) (hb : s.heap.IsTuple b items2) (hsz : items.size = items2.size) (hu : A.units < cLine)
    (he : ∀ j (h1 : j < items.size) (h2 : j < items2.size), EqIn P w A.in1 s items[j] items2[j]) (h : Q (.bool true) s) : wpAny (model P w) A (richCompare .Eq (.ref l) (.ref b)) Q E s := by
  obtain ⟨⟨c1, dd, data, sl⟩, ho, hc, n, hd⟩ := id hl
  obtain ⟨⟨c2, dd2, data2, sl2⟩, ho2, hc2, n2, hd2⟩ := id hb
  simp only at hc hd hc2 hd2
  subst hc hd hc2 hd2
  refine wpAny_richCompare_same_room (op := .Eq) ⟨_, ho, rfl⟩ ⟨_, ho2, rfl⟩ F.slot_tuple_eq (wpAny_call_entry F.slot_tuple_eq ⟨_, ho, rfl⟩ F.entry_tuple_eq ?_ (F.args_tuple_eq_2 _ _)) hu
  obtain ⟨hp, g, d, tk, os⟩ := s
  have f2 := AutoSeq1.sub_tuple_tuple
  have hZ : (items.toList.zip items2.toList).length = items.size := by simp [hsz]
  wp_walk using wpAny_loadPart' ho, wpAny_loadPart' ho2, wpAny_forIn_list _ (fun rest b s' => b.1 = none ∧ s' = ⟨hp, g, d, tk, os⟩ ∧ ∃ i, rest = (items.toList.zip items2.toList).drop i) _
  case turn =>
    rintro ⟨y, x⟩ rest b s' ⟨hb', rfl, i, hz⟩
    have lt0 : i < (items.toList.zip items2.toList).length := by
      rcases Nat.lt_or_ge i (items.toList.zip items2.toList).length with h' | h'
      · exact h'
      · rw [List.drop_of_length_le h'] at hz; cases hz
    have h1 : i < items.size := hZ ▸ lt0
    have h2 : i < items2.size := hsz ▸ h1
    rw [List.drop_eq_getElem_cons lt0] at hz
    injection hz with hyx hrest
    have hy : y = items[i] := by have := congrArg Prod.fst hyx; simpa using this
    have hx : x = items2[i] := by have := congrArg Prod.snd hyx; simpa using this
    subst hy hx
    refine wpAny_bind (he i h1 h2 _ _ ?_)
    wp_walk
    exact ⟨rfl, rfl, i + 1, hrest⟩
  case fin =>
    rintro ⟨b1, b2⟩ s' ⟨hb', rfl, i, hz⟩
    simp only at hb'
    subst hb'
    wp_walk
    refine ⟨_, rfl, ?_⟩
    have e : Builtin.Tuple.tupleCompareSizes .Eq items.size items2.size = Value.bool true := by simp [Builtin.Tuple.tupleCompareSizes, hsz]
    first | (rw [e]; exact ⟨(fun x => nomatch x), h⟩) | (simpa [Builtin.Tuple.tupleCompareSizes, hsz] using h)
  case h => exact ⟨rfl, rfl, 0, rfl⟩
end
end L2
set_option Elab.async false
set_option linter.all false
set_option maxRecDepth 100000
namespace L2
open PySem PySem.Spec PyProof.Rows PySem.Calls
section
variable {P : Program} {w : World} {κ : Type} [DecidableEq κ] {knd : KeyKind P w κ} {A : Around} {E : Value → Shared → Prop} {s : Shared}
theorem alike_pairs {nm : String} {a b : Addr} {ka kb : List (κ × Value)} {Q : Bool → Shared → Prop} (ha : (a == sysModules) = false) (hb : (b == sysModules) = false)
    (da : s.heap.DictOf knd a ka) (db : s.heap.DictOf knd b kb) (hlen : ka.length = kb.length) (hits : ∀ (i : Nat) (k : κ) (v : Value), ka[i]? = some (k, v) → ∃ y, valueAt kb k = some y ∧ EqIn P w A s v y) (h : Q true s) :
    wpAny (model P w) A (Builtin.Dict.samePairs nm a b) Q E s := by
  obtain ⟨o1, m1, p1, g1, _, d1, q1, z1, _⟩ := da
  obtain ⟨o2, m2, p2, g2, _, d2, q2, z2, _⟩ := db
  have n1 : ka.length = m1.size := by rw [← z1.length]; exact Array.length_toList
  have n2 : kb.length = m2.size := by rw [← z2.length]; exact Array.length_toList
  have look : ∀ k, findBy knd.is m2 k = valueAt kb k := fun k => by
    rw [← z2.find k]
    clear n2 z2 q2 d2 g2
    obtain ⟨l⟩ := m2
    simp [findBy]
  have same : m1.size = m2.size := by omega
  unfold Builtin.Dict.samePairs Builtin.Dict.showsAll
  rw [if_neg (by rw [ha]; exact Bool.false_ne_true), if_neg (by rw [hb]; exact Bool.false_ne_true)]
  refine wpAny_bind (wpAny_pure (wpAny_bind (wpAny_pure (wpAny_bind (wpAny_dictEntries g1 d1 ?_)))))
  dsimp only
  refine wpAny_bind (wpAny_dictEntries g2 d2 ?_)
  rw [if_neg (by rw [same]; simp)]
  refine wpAny_bind (wpAny_dictEpoch g1 d1 (wpAny_bind ?_))
  rw [Std.Legacy.Range.forIn_eq_forIn_range']
  simp only [Std.Legacy.Range.size, Nat.sub_zero, Nat.add_sub_cancel, Nat.div_one]
  refine wpAny_forIn_list _ (fun rest q s' => s' = s ∧ q = (none, ()) ∧ ∃ i, rest = List.range' i (m1.size - i) ∧ i ≤ m1.size) _ ?_ ?_ _ _ ⟨rfl, rfl, 0, by simp, Nat.zero_le _⟩
  · rintro x rest q s' ⟨rfl, rfl, i, hr, hi⟩
    have lt0 : i < m1.size := by
      rcases Nat.lt_or_ge i m1.size with z | z
      · exact z
      · rw [Nat.sub_eq_zero_of_le z] at hr; simp at hr
    obtain ⟨rfl, ht⟩ : x = i ∧ rest = List.range' (i + 1) (m1.size - (i + 1)) := by
      have e : m1.size - i = (m1.size - (i + 1)) + 1 := by omega
      rw [e, List.range'_succ] at hr
      injection hr with z1 z2
      exact ⟨z1, z2⟩
    refine wpAny_bind (wpAny_dictEntries g1 d1 ?_)
    rw [Array.getElem?_eq_getElem lt0]
    have lt1 : x < ka.length := by omega
    obtain ⟨k, v, kv⟩ : ∃ k v, ka[x] = (k, v) := ⟨_, _, rfl⟩
    have kv' : ka[x]? = some (k, v) := by rw [List.getElem?_eq_getElem lt1, kv]
    obtain ⟨hkey, hval⟩ := z1.get? (i := x) (e := m1[x]) (k := k) (v := v) (by rw [Array.getElem?_toList]; exact Array.getElem?_eq_getElem lt0) kv'
    obtain ⟨k', hk', hh⟩ := q1 m1[x] (Array.getElem_mem lt0)
    have ekk : k' = k := knd.inj _ _ _ hk' hkey
    rw [ekk] at hh
    obtain ⟨y, hy, he⟩ := hits x k v kv'
    show wpAny _ _ (holding [m1[x].key, m1[x].val] _ >>= _) _ _ _
    rw [hh]
    refine wpAny_bind (wpAny_holding (wpAny_bind (wpAny_dictFind_of hkey g2 d2 q2 ?_)))
    cases hj : m2.findIdx? fun e => knd.is k e.key with
    | none =>
      have : valueAt kb k = none := by rw [← look k, findBy_of_findIdx?, hj]
      rw [this] at hy; cases hy
    | some j =>
      obtain ⟨jlt, _, _⟩ := Array.findIdx?_eq_some_iff_getElem.mp hj
      have hv' : valueAt kb k = some m2[j].val := by
        rw [← look k, findBy_of_findIdx?, hj]
        simp [Array.getElem?_eq_getElem jlt]
      refine wpAny_bind (wpAny_dictEntries g2 d2 ?_)
      rw [Array.getElem?_eq_getElem jlt]
      have ey : m2[j].val = y := Option.some.inj (hv'.symm.trans hy)
      rw [← ey, ← hval] at he
      refine wpAny_holding (he _ _ ?_)
      show wpAny _ _ (if (!true) = true then _ else _) _ _ _
      rw [if_neg (by decide)]
      refine wpAny_bind (wpAny_dictEpoch g1 d1 ?_)
      rw [if_neg (by simp)]
      exact wpAny_pure ⟨rfl, rfl, x + 1, ht, lt0⟩
  · rintro q s' ⟨rfl, rfl, i, hr, hi⟩
    exact wpAny_pure h
theorem rc_dict {a b : Addr} {ka kb : List (κ × Value)} {Q : Value → Shared → Prop} (ha : (a == sysModules) = false) (hb : (b == sysModules) = false)
    (da : s.heap.DictOf knd a ka) (db : s.heap.DictOf knd b kb) (hu : A.units < cLine) (hlen : ka.length = kb.length) (hits : ∀ (i : Nat) (k : κ) (v : Value), ka[i]? = some (k, v) → ∃ y, valueAt kb k = some y ∧ EqIn P w A.in1 s v y) (h : Q (.bool true) s) :
    wpAny (model P w) A (richCompare .Eq (.ref a) (.ref b)) Q E s := by
  refine wpAny_richCompare_same_room (op := .Eq) da.typeIs db.typeIs PySem.F.slot_dict_eq (wpAny_call_entry PySem.F.slot_dict_eq da.typeIs PySem.F.entry_dict_eq ?_ (PySem.F.args_dict_eq_2 _ _)) hu
  show wpAny _ _ (Builtin.Dict.dictSlotArgs "__eq__" ⟨[.ref a, .ref b], []⟩ >>= _) _ _ s
  unfold Builtin.Dict.dictSlotArgs
  refine wpAny_bind (wpAny_bind (wpAny_notOrdered_dict da.typeIs ?_))
  show wpAny _ _ (pure (Value.ref a, Value.ref b)) _ _ s
  refine wpAny_pure (wpAny_bind (wpAny_isInstance (T := "dict") db.typeIs PySem.F.sub_dict_dict ?_))
  simp only [Bool.not_true, Bool.false_eq_true, if_false]
  refine wpAny_bind (wpAny_pure (wpAny_bind (wpAny_pure (wpAny_bind (alike_pairs ha hb da db hlen hits ?_)))))
  exact wpAny_pure ⟨_, rfl, (fun x => nomatch x), by simpa using h⟩
end
end L2
set_option Elab.async false
set_option linter.all false
set_option maxRecDepth 100000
set_option exponentiation.threshold 2000
namespace L2
open PySem PySem.Spec PyProof.Rows
inductive DY where
  | non
  | bl (b : Bool)
  | int (i : Int)
  | str (x : Str)
  | lst (ds : List DY)
  | tup (ds : List DY)
  | dic
  | da (d : DY)
mutual
def RepY (H : Hp) : DY → V → Prop
  | .non, v => v = .non
  | .bl b, v => v = .bl b
  | .int i, v => v = .int i
  | .str x, v => v = .str x ∧ x.length ≤ 900
  | .lst ds, v => ∃ a xs, v = .ref a ∧ H a = some (.lst xs) ∧ ds.length ≤ 900 ∧ RepYs H ds xs
  | .tup ds, v => ∃ a xs, v = .ref a ∧ H a = some (.tup xs) ∧ ds.length ≤ 900 ∧ RepYs H ds xs
  | .dic, v => ∃ a, v = .ref a ∧ H a = some (.dK [])
  | .da d, v => ∃ a u, v = .ref a ∧ H a = some (.dK [(.inr "a", u)]) ∧ RepY H d u
def RepYs (H : Hp) : List DY → List V → Prop
  | [], xs => xs = []
  | d :: ds, xs => ∃ x r, xs = x :: r ∧ RepY H d x ∧ RepYs H ds r
end
mutual
theorem RepY.same {H H' : Hp} (s : Same H H') : ∀ (d : DY) {v : V}, RepY H d v → RepY H' d v
  | .non, v, h => by rw [RepY] at *; exact h
  | .bl b, v, h => by rw [RepY] at *; exact h
  | .int i, v, h => by rw [RepY] at *; exact h
  | .str x, v, h => by rw [RepY] at *; exact h
  | .lst ds, v, h => by rw [RepY] at *; obtain ⟨a, xs, e, h1, h0, h2⟩ := h; exact ⟨a, xs, e, s _ _ h1, h0, RepYs.same s ds h2⟩
  | .tup ds, v, h => by rw [RepY] at *; obtain ⟨a, xs, e, h1, h0, h2⟩ := h; exact ⟨a, xs, e, s _ _ h1, h0, RepYs.same s ds h2⟩
  | .dic, v, h => by rw [RepY] at *; obtain ⟨a, e, h1⟩ := h; exact ⟨a, e, s _ _ h1⟩
  | .da d, v, h => by rw [RepY] at *; obtain ⟨a, u, e, h1, h2⟩ := h; exact ⟨a, u, e, s _ _ h1, RepY.same s d h2⟩
theorem RepYs.same {H H' : Hp} (s : Same H H') : ∀ (ds : List DY) {xs : List V}, RepYs H ds xs → RepYs H' ds xs
  | [], xs, h => by rw [RepYs] at *; exact h
  | d :: ds, xs, h => by rw [RepYs] at *; obtain ⟨x, r, e, h1, h2⟩ := h; exact ⟨x, r, e, RepY.same s d h1, RepYs.same s ds h2⟩
end
theorem RepYs.length {H : Hp} : ∀ {ds : List DY} {xs : List V}, RepYs H ds xs → xs.length = ds.length
  | [], xs, h => by rw [RepYs] at h; rw [h]; rfl
  | d :: ds, xs, h => by
    rw [RepYs] at h
    obtain ⟨x, r, rfl, _, h⟩ := h
    rw [List.length_cons, List.length_cons, RepYs.length h]
theorem RepYs.get {H : Hp} : ∀ {ds : List DY} {xs : List V} {i : Nat} {x : V}, RepYs H ds xs → xs[i]? = some x → ∃ d, ds[i]? = some d ∧ RepY H d x
  | [], xs, i, x, h, e => by rw [RepYs] at h; subst h; simp at e
  | d :: ds, xs, 0, x, h, e => by
    rw [RepYs] at h
    obtain ⟨y, r, rfl, h1, h2⟩ := h
    simp at e
    subst e
    exact ⟨d, rfl, h1⟩
  | d :: ds, xs, i + 1, x, h, e => by
    rw [RepYs] at h
    obtain ⟨y, r, rfl, h1, h2⟩ := h
    simp at e
    obtain ⟨d', e1, e2⟩ := RepYs.get h2 e
    exact ⟨d', by simpa using e1, e2⟩
theorem RepYs.append {H : Hp} : ∀ {ds es : List DY} {xs ys : List V}, RepYs H ds xs → RepYs H es ys → RepYs H (ds ++ es) (xs ++ ys)
  | [], es, xs, ys, h, h' => by rw [RepYs] at h; subst h; exact h'
  | d :: ds, es, xs, ys, h, h' => by
    rw [RepYs] at h
    obtain ⟨x, r, rfl, h1, h2⟩ := h
    rw [List.cons_append, List.cons_append, RepYs]
    exact ⟨x, r ++ ys, rfl, h1, RepYs.append h2 h'⟩
mutual
def depthY : DY → Nat
  | .lst ds => depthYs ds + 1
  | .tup ds => depthYs ds + 1
  | .da d => depthY d + 1
  | _ => 0
def depthYs : List DY → Nat
  | [] => 0
  | d :: ds => max (depthY d) (depthYs ds)
end
def tyY : DY → String
  | .non => "NoneType"
  | .bl _ => "bool"
  | .int _ => "int"
  | .str _ => "str"
  | .lst _ => "list"
  | .tup _ => "tuple"
  | .dic => "dict"
  | .da _ => "dict"
theorem RepY.ty {K : PySem.W.Frag} {H : Hp} {d : DY} {v : V} (h : RepY H d v) : TyOf K H v (.type (tyY d)) := by
  cases d with
  | non => rw [RepY] at h; subst h; exact .non
  | bl b => rw [RepY] at h; subst h; exact .bl b
  | int i => rw [RepY] at h; subst h; exact .int i
  | str x => rw [RepY] at h; obtain ⟨rfl, _⟩ := h; exact .str x
  | lst ds => rw [RepY] at h; obtain ⟨a, xs, rfl, h1, _⟩ := h; exact .lst h1
  | tup ds => rw [RepY] at h; obtain ⟨a, xs, rfl, h1, _⟩ := h; exact .tup h1
  | dic => rw [RepY] at h; obtain ⟨a, rfl, h1⟩ := h; exact .dK h1
  | da d => rw [RepY] at h; obtain ⟨a, u, rfl, h1, _⟩ := h; exact .dK h1
section
variable {X : Cx} {pins : List (Addr × Obj)} {σ : St} {H : Hp} {s : Shared}
theorem eqIn_refs {P : Program} {w : World} {A : Around} {l b : Addr} (h : ∀ (E : Value → Shared → Prop) (Q : Value → Shared → Prop), Q (.bool true) s → wpAny (model P w) A (richCompare .Eq (.ref l) (.ref b)) Q E s) : EqIn P w A s (.ref l) (.ref b) := fun E Q hq => by
  by_cases e : l = b
  · subst e
    exact SeqAt.EqAt.same (.ref l) P w E Q hq
  · unfold eqBool
    refine wpAny_holding ?_
    refine wpAny_ite_split (fun hab => absurd (by have := eq_of_beq hab; injection this) e) (fun _ => ?_)
    exact wpAny_bind (h E _ (wpAny_truthy_bool hq))
mutual
theorem eqIn_rep (I : Inv X pins σ H s) : ∀ (A : Around) (d : DY) (v v' : V) (u u' : Value), RepY H d v → RepY H d v' → RelV v u → RelV v' u' → A.units + depthY d < cLine → EqIn X.prog X.w A s u u'
  | A, .non, v, v', u, u', h, h', r, r', z => by
    rw [RepY] at h h'
    subst h h'
    exact EqIn.of (eqAt_rep I A .non .non _ _ _ _ (by rw [Rep]) (by rw [Rep]) r r' (show A.units + 0 < cLine by omega))
  | A, .bl b, v, v', u, u', h, h', r, r', z => by
    rw [RepY] at h h'
    subst h h'
    have := eqAt_rep I A (.bl b) (.bl b) _ _ _ _ (by rw [Rep]) (by rw [Rep]) r r' (show A.units + 0 < cLine by omega)
    rw [pyEq_refl] at this
    exact EqIn.of this
  | A, .int b, v, v', u, u', h, h', r, r', z => by
    rw [RepY] at h h'
    subst h h'
    have := eqAt_rep I A (.int b) (.int b) _ _ _ _ (by rw [Rep]) (by rw [Rep]) r r' (show A.units + 0 < cLine by omega)
    rw [pyEq_refl] at this
    exact EqIn.of this
  | A, .str b, v, v', u, u', h, h', r, r', z => by
    rw [RepY] at h h'
    obtain ⟨rfl, _⟩ := h
    obtain ⟨rfl, _⟩ := h'
    have := eqAt_rep I A (.str b) (.str b) _ _ _ _ (by rw [Rep]) (by rw [Rep]) r r' (show A.units + 0 < cLine by omega)
    rw [pyEq_refl] at this
    exact EqIn.of this
  | A, .lst ds, v, v', u, u', h, h', r, r', z => by
    rw [RepY] at h h'
    obtain ⟨a, xs, rfl, h1, _, h2⟩ := h
    obtain ⟨a', xs', rfl, h1', _, h2'⟩ := h'
    cases (show u = Value.ref a from r)
    cases (show u' = Value.ref a' from r')
    obtain ⟨_, its, n, rv, hg⟩ := (show ObjOk X.prog X.w H s.heap a (.lst xs) from I.hok a _ h1)
    obtain ⟨_, its', n', rv', hg'⟩ := (show ObjOk X.prog X.w H s.heap a' (.lst xs') from I.hok a' _ h1')
    have l1 := h2.length
    have l2 := h2'.length
    have l3 := rv.length
    have l4 := rv'.length
    rw [depthY] at z
    refine eqIn_refs fun E Q q => rc_list ⟨_, hg, rfl, _, rfl⟩ ⟨_, hg', rfl, _, rfl⟩ (by simp only [List.size_toArray]; omega) (by omega) (fun j k1 k2 => ?_) q
    have := eqIns_rep I A.in1 ds xs xs' its its' h2 h2' rv rv' (by rw [Around.in1_units]; omega) j (by simpa using k1) (by simpa using k2)
    simpa using this
  | A, .tup ds, v, v', u, u', h, h', r, r', z => by
    rw [RepY] at h h'
    obtain ⟨a, xs, rfl, h1, _, h2⟩ := h
    obtain ⟨a', xs', rfl, h1', _, h2'⟩ := h'
    cases (show u = Value.ref a from r)
    cases (show u' = Value.ref a' from r')
    obtain ⟨_, its, rv, o, hg, hc, _, n, hd⟩ := (show ObjOk X.prog X.w H s.heap a (.tup xs) from I.hok a _ h1)
    obtain ⟨_, its', rv', o', hg', hc', _, n', hd'⟩ := (show ObjOk X.prog X.w H s.heap a' (.tup xs') from I.hok a' _ h1')
    have l1 := h2.length
    have l2 := h2'.length
    have l3 := rv.length
    have l4 := rv'.length
    rw [depthY] at z
    refine eqIn_refs fun E Q q => rc_tuple ⟨_, hg, hc, _, hd⟩ ⟨_, hg', hc', _, hd'⟩ (by simp only [List.size_toArray]; omega) (by omega) (fun j k1 k2 => ?_) q
    have := eqIns_rep I A.in1 ds xs xs' its its' h2 h2' rv rv' (by rw [Around.in1_units]; omega) j (by simpa using k1) (by simpa using k2)
    simpa using this
  | A, .dic, v, v', u, u', h, h', r, r', z => by
    rw [RepY] at h h'
    obtain ⟨a, rfl, h1⟩ := h
    obtain ⟨a', rfl, h1'⟩ := h'
    cases (show u = Value.ref a from r)
    cases (show u' = Value.ref a' from r')
    obtain ⟨_, hS, vs, rk, dd⟩ := dk_of I.hok h1
    obtain ⟨_, hS', vs', rk', dd'⟩ := dk_of I.hok h1'
    cases rk
    cases rk'
    exact eqIn_refs fun E Q q => rc_dict hS hS' dd dd' (by omega) rfl (fun i k v e => by simp at e) q
  | A, .da d, v, v', u, u', h, h', r, r', z => by
    rw [RepY] at h h'
    obtain ⟨a, y, rfl, h1, h2⟩ := h
    obtain ⟨a', y', rfl, h1', h2'⟩ := h'
    cases (show u = Value.ref a from r)
    cases (show u' = Value.ref a' from r')
    obtain ⟨_, hS, vs, rk, dd⟩ := dk_of I.hok h1
    obtain ⟨_, hS', vs', rk', dd'⟩ := dk_of I.hok h1'
    rw [depthY] at z
    have l1 : 1 = vs.length := KV.length rk
    have l2 : 1 = vs'.length := KV.length rk'
    refine eqIn_refs fun E Q q => rc_dict hS hS' dd dd' (by omega) (by omega) (fun i k w e => ?_) q
    cases rk with
    | cons p1 p2 =>
      cases p2
      cases rk' with
      | cons p1' p2' =>
        cases p2'
        rename_i kw kw'
        obtain ⟨k0, w0⟩ := kw
        obtain ⟨k0', w0'⟩ := kw'
        obtain ⟨e1, r1⟩ := p1
        obtain ⟨e1', r1'⟩ := p1'
        dsimp only at e1 e1' r1 r1'
        subst e1 e1'
        cases i with
        | succ i => simp at e
        | zero =>
          simp at e
          obtain ⟨rfl, rfl⟩ := e
          refine ⟨w0', by simp [valueAt], eqIn_rep I A.in1 d y y' w0 w0' h2 h2' r1 r1' (by rw [Around.in1_units]; omega)⟩
theorem eqIns_rep (I : Inv X pins σ H s) : ∀ (A : Around) (ds : List DY) (vs ws : List V) (us ys : List Value), RepYs H ds vs → RepYs H ds ws → Vals vs us → Vals ws ys → A.units + depthYs ds < cLine →
    ∀ (j : Nat) (h1 : j < us.length) (h2 : j < ys.length), EqIn X.prog X.w A s us[j] ys[j]
  | A, [], vs, ws, us, ys, h, h', r, r', z => by
    rw [RepYs] at h
    subst h
    cases r
    intro j h1
    simp at h1
  | A, d :: ds, vs, ws, us, ys, h, h', r, r', z => by
    rw [RepYs] at h h'
    obtain ⟨x, q, rfl, g1, g2⟩ := h
    obtain ⟨x', q', rfl, g1', g2'⟩ := h'
    rw [depthYs] at z
    cases r with
    | cons r1 r2 =>
      cases r' with
      | cons r1' r2' =>
        intro j h1 h2
        cases j with
        | zero => exact eqIn_rep I A d x x' _ _ g1 g1' r1 r1' (by omega)
        | succ j => exact eqIns_rep I A ds q q' _ _ g2 g2' r2 r2' (by omega) j (by simpa using h1) (by simpa using h2)
end
end
end L2
set_option Elab.async false
set_option linter.all false
set_option maxRecDepth 100000
set_option exponentiation.threshold 2000
namespace L2
open PySem PySem.Spec PyProof.Rows
section
variable {X : Cx} {pins : List (Addr × Obj)} {σ : St} {H : Hp} {s : Shared}
end
section
variable {X : Cx}
def rNeNil : R2 := fun x y H Q => ∃ a b kvs, x = .ref a ∧ y = .ref b ∧ H a = some (.dK kvs) ∧ H b = some (.dK []) ∧ Q (.bl (!kvs.isEmpty)) H
theorem op_neNil (hr : RoomD X) : OpR X (compareOp .NotEq) rNeNil := by
  intro pins s σ H x y v u Q I rx ry h
  obtain ⟨a, b, kvs, rfl, rfl, ha, hb, q⟩ := h
  cases (show v = Value.ref a from rx)
  cases (show u = Value.ref b from ry)
  unfold RoomD at hr
  obtain ⟨_, hS, vs, rk, dd⟩ := dk_of I.hok ha
  obtain ⟨_, hS', vs', rk', dd'⟩ := dk_of I.hok hb
  cases rk'
  have l := KV.length rk
  refine PySem.W.keq_ne (r := true) hS hS' dd dd' (by omega) (fun e => ?_) ?_
  · cases vs with
    | nil => exact .nil
    | cons p ps => cases e
  · refine ⟨.bl (!kvs.isEmpty), H, I, ?_, q⟩
    cases vs with
    | nil =>
      cases kvs with
      | nil => rfl
      | cons p ps => cases l
    | cons p ps =>
      cases kvs with
      | nil => cases l
      | cons p ps => rfl
end
end L2
set_option Elab.async false
set_option linter.all false
set_option maxRecDepth 100000
namespace L2
open PySem PySem.Spec PyProof.Rows
section
variable {X : Cx}
def rInsert : V → List V → Hp → VK → Prop := fun x vs H Q => ∃ (l : Addr) (xs : List V) (i : Nat) (y : V), x = .ref l ∧ vs = [.int (i : Int), y] ∧ H l = some (.lst xs) ∧ i ≤ xs.length ∧ xs.length < sizeLine ∧ Q .non (upd H l (.lst (xs.take i ++ y :: xs.drop i)))
theorem mt_insert : MtM X "list.insert" rInsert := by
  intro pins s σ H x vs v us Q I rx rv h
  obtain ⟨l, xs, i, y, rfl, rfl, hH, hi, hz, q⟩ := h
  cases rx
  obtain ⟨u1, u2, rfl, ru1, ru2⟩ := vals2 rv
  obtain ⟨t, rfl⟩ := (show ∃ t, u1 = Value.int i t from ru1)
  obtain ⟨z, its, n, r, hl, e⟩ := I.lstM hH
  have fit : ¬ (!Builtin.List.listFitsIndex (i : Int)) = true := by
    have hs : (sizeLine : Int) = 16777216 := by decide
    have := fitsIndex_both (k := (i : Int)) (by omega) (by omega)
    rw [this]
    decide
  have tl : s.TypeIs (.ref l) "list" := ⟨_, e, rfl⟩
  have sz : its.toArray.size ≤ sizeLine := by rw [List.size_toArray, ← hl]; exact Nat.le_of_lt hz
  obtain ⟨x, hx⟩ : ∃ x : Int, x = (i : Int) := ⟨_, rfl⟩
  obtain ⟨items, hi2⟩ : ∃ a, a = its.toArray := ⟨_, rfl⟩
  rw [← hx] at fit ⊢
  have e2 := e
  rw [← hi2] at sz e2
  refine call_meets F.slot_list_insert tl F.entry_list_insert (F.args_list_insert_3 _ _ _) (@PySem.AutoListH.list_insert_list_int_val_1 l items n x t u2 fit sz) ⟨e2, ?_⟩
  refine ⟨.non, _, I.lset (ys := xs.take i ++ y :: xs.drop i) (its' := its.take i ++ u2 :: its.drop i) hH e ?_ ?_ ?_, rfl, q⟩
  · subst hx
    have k0 : (if (i : Int) < 0 then ((i : Int) + ((its.toArray.size : Nat) : Int)).toNat else min (i : Int).toNat its.toArray.size) = i := by
      rw [if_neg (by omega), List.size_toArray]
      omega
    dsimp only
    rw [k0]
    apply Array.toList_inj.mp
    simp
    exact List.take_of_length_le (by rw [List.length_drop]; exact Nat.le_refl _)
  · exact (r.take i).append (.cons ru2 (r.drop i))
  · rw [List.length_append, List.length_cons, List.length_take, List.length_drop]; omega
end
end L2
set_option Elab.async false
set_option linter.all false
set_option maxRecDepth 100000
set_option exponentiation.threshold 2000
namespace L2
open PySem PySem.Spec PyProof.Rows
def hid (b g : Addr) (H : Hp) : Hp := fun a => if a = b ∨ a = g then none else H a
def nw (H H' : Hp) : Hp := fun a => match H a with | none => H' a | some _ => none
theorem nw_some {H H' : Hp} {a : Addr} {o : HO} (h : nw H H' a = some o) : H a = none ∧ H' a = some o := by
  unfold nw at h
  cases e : H a with
  | none => rw [e] at h; exact ⟨rfl, h⟩
  | some x => rw [e] at h; cases h
theorem nw_of {H H' : Hp} {a : Addr} {o : HO} (h : H a = none) (h' : H' a = some o) : nw H H' a = some o := by
  unfold nw
  rw [h]
  exact h'
theorem nw_le (H H' : Hp) : Same (nw H H') H' := fun a o h => (nw_some h).2
theorem nw_left {H0 H H' : Hp} (t : ∀ a, H a = none → H0 a = none) : Same (nw H H') (nw H0 H') := fun a o h => nw_of (t a (nw_some h).1) (nw_some h).2
theorem nw_right {H H1 H2 : Hp} (s : ∀ a o, H a = none → H1 a = some o → H2 a = some o) : Same (nw H H1) (nw H H2) := fun a o h => nw_of (nw_some h).1 (s a o (nw_some h).1 (nw_some h).2)
theorem nw_sameB {H H1 H2 : Hp} {b g : Addr} (hb : H b ≠ none) (hg : H g ≠ none) (s : SameB b g H1 H2) : Same (nw H H1) (nw H H2) :=
  nw_right fun a o h1 h2 => s a o h2 (fun z => hb (z ▸ h1)) (fun z => hg (z ▸ h1))
theorem nw_same {H H1 H2 : Hp} (s : Same H1 H2) : Same (nw H H1) (nw H H2) := nw_right fun a o _ h => s a o h
theorem Bag.trk {H : Hp} {b g l : Addr} {n : Int} (B : Bag H b g l n) : H b ≠ none ∧ H g ≠ none := by
  obtain ⟨gs, ls, c, st, h1, h2, _⟩ := B.ex
  refine ⟨?_, ?_⟩
  · rw [h1]; exact Option.some_ne_none _
  · rw [h2]; exact Option.some_ne_none _
theorem SameB.back {H H' : Hp} {b g l : Addr} {n : Int} (B : Bag H' b g l n) (s : SameB b g H H') : ∀ a, H' a = Option.none → H a = Option.none := fun a h => by
  cases e : H a with
  | none => rfl
  | some o =>
    have h1 : a ≠ b := fun z => B.trk.1 (z ▸ h)
    have h2 : a ≠ g := fun z => B.trk.2 (z ▸ h)
    rw [s a o e h1 h2] at h
    cases h
theorem sb_off {b g p : Addr} {H H' : Hp} {o : HO} (s : SameB b g H H') (hp : H p = none) : SameB b g H (upd H' p o) := fun a x h n1 n2 => by
  have : a ≠ p := fun z => by rw [z, hp] at h; cases h
  rw [upd_ne this]
  exact s a x h n1 n2
theorem bag_off {b g l p : Addr} {n : Int} {H : Hp} {o : HO} (B : Bag H b g l n) (pb : p ≠ b) (pg : p ≠ g) (pl : p ≠ l) : Bag (upd H p o) b g l n := by
  obtain ⟨⟨gs, ls, c, st, h1, h2, h3, h4⟩, gl⟩ := B
  exact ⟨⟨gs, ls, c, st, by rw [upd_ne pb.symm]; exact h1, by rw [upd_ne pg.symm]; exact h2, by rw [upd_ne pl.symm]; exact h3, h4⟩, gl⟩
def spUpTo (D : Nat) (sp : Nat → Sp) : Sp := fun vs H Q E => ∃ n, n ≤ D ∧ sp n vs H Q E
section
variable {P : Program} {w : World} {K : PySem.W.Frag} {mg : Str → Option Value} {base : Heap}
def spNev : Sp := fun _ _ _ _ => False
theorem rec_fn {x : Str} {st : Stmt} {f : Addr} {fd : FuncData} {N ps : List Str} (F : Fun K x x st f fd) (S : FnScope N ps (defScope st)) (b : Binds K fd ps []) (M : mg x = some (.ref f)) (L : Nat) (sp : Nat → Sp)
    (step : ∀ n sp0, (∀ m, n = m + 1 → sp0 = sp m) → FnH P w K mg base (L + 1 + n) x ps sp0 → FnOk P w K mg base CX0 (L + 1 + n + 1) f fd ps (sp n)) : ∀ n, FnOk P w K mg base CX0 (L + 1 + n + 1) f fd ps (sp n)
  | 0 => step 0 spNev (fun m z => by cases z) ⟨f, fd, F.ok (k := L) S (fun _ _ _ _ h => h.elim) (fun _ _ _ _ _ _ _ _ _ h => h.elim), b, F.kp, M⟩
  | n + 1 => step (n + 1) (sp n) (fun m z => by cases z; rfl) ⟨f, fd, rec_fn F S b M L sp step n, b, F.kp, M⟩
theorem upTo_ok {f : Addr} {fd : FuncData} {ps : List Str} {L D : Nat} {sp : Nat → Sp} (h : ∀ n, FnOk P w K mg base CX0 (L + 1 + n + 1) f fd ps (sp n)) : FnOk P w K mg base CX0 (L + D + 2) f fd ps (spUpTo D sp) :=
  ⟨fun vs H Q E ⟨n, _, q⟩ => (h n).len vs H Q E q, fun A outer s H args us vs Q E hr he hb hv ⟨n, hn, q⟩ => (h n).run A outer s H args us vs Q E (hr.mono (by omega)) he hb hv q⟩
end
section
variable {X : Cx}
end
def eD : Option Int → DY
  | none => .non
  | some i => .int i
theorem repY_eV (H : Hp) (o : Option Int) : RepY H (eD o) (eV o) := by
  cases o with
  | none => show RepY H .non .non; rw [RepY]
  | some i => show RepY H (.int i) (.int i); rw [RepY]
theorem depth_eD (o : Option Int) : depthY (eD o) = 0 := by
  cases o <;> rfl
theorem RepYs.nil {H : Hp} : RepYs H [] [] := by rw [RepYs]
theorem RepYs.cons {H : Hp} {d : DY} {ds : List DY} {x : V} {xs : List V} (h : RepY H d x) (hs : RepYs H ds xs) : RepYs H (d :: ds) (x :: xs) := by rw [RepYs]; exact ⟨x, xs, rfl, h, hs⟩
theorem rep_lst {H : Hp} {a : Addr} {ds : List DY} {xs : List V} (h : H a = some (.lst xs)) (hs : RepYs H ds xs) (hl : xs.length ≤ 900) : RepY H (.lst ds) (.ref a) := by
  rw [RepY]
  exact ⟨a, xs, rfl, h, by rw [← hs.length]; exact hl, hs⟩
theorem rep_tup {H : Hp} {a : Addr} {ds : List DY} {xs : List V} (h : H a = some (.tup xs)) (hs : RepYs H ds xs) (hl : xs.length ≤ 900) : RepY H (.tup ds) (.ref a) := by
  rw [RepY]
  exact ⟨a, xs, rfl, h, by rw [← hs.length]; exact hl, hs⟩
theorem rep_da {H : Hp} {a : Addr} {d : DY} {u : V} (h : H a = some (.dK [(.inr "a", u)])) (hs : RepY H d u) : RepY H (.da d) (.ref a) := by
  rw [RepY]
  exact ⟨a, u, rfl, h, hs⟩
theorem depthYs_le : ∀ {ds : List DY} {m : Nat}, (∀ d ∈ ds, depthY d ≤ m) → depthYs ds ≤ m
  | [], m, _ => by rw [depthYs]; exact Nat.zero_le _
  | d :: ds, m, h => by
    rw [depthYs]
    have h1 := h d (List.mem_cons_self ..)
    have h2 := depthYs_le fun e he => h e (List.mem_cons_of_mem _ he)
    omega
theorem depthYs_ge : ∀ {ds : List DY} {d : DY}, d ∈ ds → depthY d ≤ depthYs ds
  | [], d, h => nomatch h
  | e :: ds, d, h => by
    rw [depthYs]
    rcases List.mem_cons.mp h with rfl | h
    · omega
    · have := depthYs_ge h
      omega
end L2
set_option Elab.async false
set_option linter.all false
set_option maxRecDepth 100000
set_option exponentiation.threshold 2000
namespace L2
open PySem PySem.Spec PyProof.Rows
theorem lc_copyL {K : PySem.W.Frag} {H : Hp} {a p : Addr} {Q : VK} {js : Cap} {σ cap : St} {tc : TT} {te : TE} (ds : List DY) (xs : List V) (m : Nat) (e : H a = some (.lst xs)) (hr : RepYs H ds xs) (hl : xs.length ≤ 900) (hm : ∀ d ∈ ds, depthY d ≤ m) (hp : H p = none) (hσ : inn js σ = none :: cap)
    (ht : ∀ x H' (R : Bool → Hp → Prop), R true H' → tc (some x :: cap) H' R)
    (he : ∀ x d H' (R : VK), RepY H' d x → depthY d ≤ m → (∀ v' H'', RepY (nw H' H'') d v' → Same H' H'' → R v' H'') → te (some x :: cap) H' R)
    (hq : ∀ H' ys, Same H H' → H' p = some (.lst ys) → ys.length = xs.length → RepYs (nw H H') ds ys → Q (.ref p) H') : LcGoal (Itl K a) p js (gName 0) tc te σ H Q := by
  have s0 := same_new hp (.lst [])
  have hlen := hr.length
  refine lc_list (xs := xs) (fun i σ' ys H' => (∃ v, σ' = v :: cap) ∧ Same H H' ∧ H' p = some (.lst ys) ∧ ys.length = i ∧ RepYs (nw (upd H p (.lst [])) H') (ds.take i) ys) ⟨⟨_, hσ⟩, s0, upd_same, rfl, RepYs.nil⟩ ?_ ?_ ?_
  · rintro i σ' ys H' hi ⟨_, s, h1, h2, _⟩
    exact ⟨SqL.of (s _ _ e), h1, by rw [h2]; exact small1000 (by omega)⟩
  · rintro i x σ' ys H4 N hx ⟨⟨v, rfl⟩, s4, h1, h2, h3⟩ hN
    obtain ⟨d, ed, rd⟩ := hr.get hx
    refine ht x H4 _ (iteT (he x d H4 _ (RepY.same s4 d rd) (hm d (List.mem_of_getElem? ed)) fun v' H5 r5 s5 => ⟨s5 _ _ h1, hN _ _ _ ⟨⟨_, rfl⟩, ?_, upd_same, by rw [List.length_append, h2]; rfl, ?_⟩⟩))
    · intro b o q
      have : b ≠ p := fun z => by rw [z, hp] at q; cases q
      rw [upd_ne this]
      exact s5 _ _ (s4 b o q)
    · have t4 : ∀ b, H4 b = none → (upd H p (.lst [])) b = none := fun b hb => by
        have : b ≠ p := fun z => by rw [z, h1] at hb; cases hb
        rw [upd_ne this]
        exact s4.free hb
      have hP : (upd H p (.lst [])) p ≠ none := by rw [upd_same]; exact Option.some_ne_none _
      have off : Same (nw (upd H p (.lst [])) H5) (nw (upd H p (.lst [])) (upd H5 p (.lst (ys ++ [v'])))) := nw_right fun b o z1 z2 => by
        have : b ≠ p := fun z => hP (by rw [z] at z1; exact z1)
        rw [upd_ne this]
        exact z2
      rw [take_snoc ed]
      exact (RepYs.same off _ (RepYs.same (nw_same s5) _ h3)).append (RepYs.cons (RepY.same off _ (RepY.same (nw_left t4) _ r5)) RepYs.nil)
  · rintro σ' ys H' ⟨_, s, h1, h2, h3⟩
    rw [List.take_of_length_le (by omega)] at h3
    exact hq H' ys s h1 h2 (RepYs.same (nw_left fun b hb => s0.free hb) _ h3)
theorem lc_copyT {K : PySem.W.Frag} {H : Hp} {a p : Addr} {Q : VK} {js : Cap} {σ cap : St} {tc : TT} {te : TE} (ds : List DY) (xs : List V) (m : Nat) (e : H a = some (.tup xs)) (hr : RepYs H ds xs) (hl : xs.length ≤ 900) (hm : ∀ d ∈ ds, depthY d ≤ m) (hp : H p = none) (hσ : inn js σ = none :: cap)
    (ht : ∀ x H' (R : Bool → Hp → Prop), R true H' → tc (some x :: cap) H' R)
    (he : ∀ x d H' (R : VK), RepY H' d x → depthY d ≤ m → (∀ v' H'', RepY (nw H' H'') d v' → Same H' H'' → R v' H'') → te (some x :: cap) H' R)
    (hq : ∀ H' ys, Same H H' → H' p = some (.lst ys) → ys.length = xs.length → RepYs (nw H H') ds ys → Q (.ref p) H') : LcGoal (Itt K a) p js (gName 0) tc te σ H Q := by
  have s0 := same_new hp (.lst [])
  have hlen := hr.length
  refine lc_tup (xs := xs) (fun i σ' ys H' => (∃ v, σ' = v :: cap) ∧ Same H H' ∧ H' p = some (.lst ys) ∧ ys.length = i ∧ RepYs (nw (upd H p (.lst [])) H') (ds.take i) ys) ⟨⟨_, hσ⟩, s0, upd_same, rfl, RepYs.nil⟩ ?_ ?_ ?_
  · rintro i σ' ys H' hi ⟨_, s, h1, h2, _⟩
    exact ⟨SqT.of (s _ _ e), h1, by rw [h2]; exact small1000 (by omega)⟩
  · rintro i x σ' ys H4 N hx ⟨⟨v, rfl⟩, s4, h1, h2, h3⟩ hN
    obtain ⟨d, ed, rd⟩ := hr.get hx
    refine ht x H4 _ (iteT (he x d H4 _ (RepY.same s4 d rd) (hm d (List.mem_of_getElem? ed)) fun v' H5 r5 s5 => ⟨s5 _ _ h1, hN _ _ _ ⟨⟨_, rfl⟩, ?_, upd_same, by rw [List.length_append, h2]; rfl, ?_⟩⟩))
    · intro b o q
      have : b ≠ p := fun z => by rw [z, hp] at q; cases q
      rw [upd_ne this]
      exact s5 _ _ (s4 b o q)
    · have t4 : ∀ b, H4 b = none → (upd H p (.lst [])) b = none := fun b hb => by
        have : b ≠ p := fun z => by rw [z, h1] at hb; cases hb
        rw [upd_ne this]
        exact s4.free hb
      have hP : (upd H p (.lst [])) p ≠ none := by rw [upd_same]; exact Option.some_ne_none _
      have off : Same (nw (upd H p (.lst [])) H5) (nw (upd H p (.lst [])) (upd H5 p (.lst (ys ++ [v'])))) := nw_right fun b o z1 z2 => by
        have : b ≠ p := fun z => hP (by rw [z] at z1; exact z1)
        rw [upd_ne this]
        exact z2
      rw [take_snoc ed]
      exact (RepYs.same off _ (RepYs.same (nw_same s5) _ h3)).append (RepYs.cons (RepY.same off _ (RepY.same (nw_left t4) _ r5)) RepYs.nil)
  · rintro σ' ys H' ⟨_, s, h1, h2, h3⟩
    rw [List.take_of_length_le (by omega)] at h3
    exact hq H' ys s h1 h2 (RepYs.same (nw_left fun b hb => s0.free hb) _ h3)
theorem dget_a {H : Hp} {a : Addr} {u : V} (h : H a = some (.dK [(.inr "a", u)])) : DGet H a (.str "a") (some u) := by
  have := DGet.k (k := Sum.inr "a") h
  have e : valV [((Sum.inr "a" : Key), u)] (Sum.inr "a") = some u := by simp [valV]
  rw [e] at this
  exact this
theorem z_join {t u : TS} {D : Ends} {σ : St} {H : Hp} (M : St → Hp → Prop) (h1 : ∀ Z : St → Hp → Prop, (∀ σ' H', M σ' H' → Z σ' H') → t { D with nx := Z } σ H) (h2 : ∀ σ' H', M σ' H' → u D σ' H') : tSeq t u D σ H := h1 (u D) h2
theorem z_if {c : TT} {t u v : TS} {D : Ends} {σ : St} {H : Hp} (M : Bool → Hp → Prop) (h : ∀ R : Bool → Hp → Prop, (∀ b H', M b H' → R b H') → c σ H R) (k1 : ∀ H', M true H' → t { D with nx := v D } σ H') (k2 : ∀ H', M false H' → u { D with nx := v D } σ H') : tSeq (tIfS c t u) v D σ H :=
  h _ fun b H' m => by cases b with | true => exact iteT (k1 H' m) | false => exact iteF (k2 H' m)
theorem z_name {i : Nat} {v : V} {σ : St} {H : Hp} {Q : St → Hp → Prop} (h : Q (σ.set i (some v)) H) : gName i v σ H Q := h
end L2
set_option Elab.async false
set_option linter.all false
set_option maxRecDepth 100000
namespace L2
open PySem PySem.Spec PyProof.Rows
open PySem.AutoSeq1 (wpAny_loadPart')
open PySem.MeetsSeq PySem.MeetsSeq2 PySem.MeetsSeq3 PySem.SeqRoads2 PySem.Calls
section
variable {P : Program} {w : World}
theorem niList_loop (l b : Addr) (items items2 : Array Value) (n n2 : Nat) (dd dd2 : Option Addr) (sl sl2 : Array (Option Value)) (hsz : items.size = items2.size) (k : Nat) :
    ∀ i : Nat, items.size - i = k → ∀ (A : Around) (R : Result → Shared → Prop) (s : Shared), s.heap.get? l = some { cls := .type "list", dict := dd, data := .seq items n, slots := sl } → s.heap.get? b = some { cls := .type "list", dict := dd2, data := .seq items2 n2, slots := sl2 } →
      (∀ j (h1 : j < items.size) (h2 : j < items2.size), EqIn P w A.in1 s items[j] items2[j]) → R (.ok (.ret (.bool false))) s →
      wpAny (model P w) A.in1 (Builtin.«list.__eq__.loop» ⟨[.ref l, .ref b, rawInt i, rawInt 3], []⟩) (fun fin s' => match fin with | .done f => R (.ok f) s' | .again c' => c'.quiet = true ∧ codeAny (model P w) A c' R s') (fun e s' => R (.error e) s') s := by
  induction k with
  | zero =>
    intro i hk A R s hl hb he h
    obtain ⟨hp, g, d, tk, os⟩ := s
    wp_walk using wpAny_loadPart' hl, wpAny_loadPart' hb
    have o1 : items[((i : Nat) : Int).toNat]? = none := by simp; omega
    have o2 : items2[((i : Nat) : Int).toNat]? = none := by simp; omega
    rw [o1, o2]
    wp_walk using wpAny_loadPart' hl, wpAny_loadPart' hb
    show R (.ok (.ret (.bool (items.size != items2.size)))) _
    rw [hsz]
    simpa using h
  | succ k ih =>
    intro i hk A R s hl hb he h
    obtain ⟨hp, g, d, tk, os⟩ := s
    wp_walk using wpAny_loadPart' hl, wpAny_loadPart' hb
    have lt1 : i < items.size := by omega
    have lt2 : i < items2.size := by omega
    have o1 : items[((i : Nat) : Int).toNat]? = some items[i] := by simp [lt1]
    have o2 : items2[((i : Nat) : Int).toNat]? = some items2[i] := by simp [lt2]
    have hc : ((i : Int) + 1) = ((i + 1 : Nat) : Int) := by push_cast; rfl
    rw [o1, o2]
    refine wpAny_bind (he i lt1 lt2 _ _ ?_)
    wp_walk
    rw [hc]
    exact ⟨plainId_quiet plain_eq_loop _, codeAny_builtin entry_eq_loop (by
      rw [Around.under_plainId plain_eq_loop _]
      exact ih (i + 1) (by omega) A R _ hl hb he h)⟩
theorem niList (l b : Addr) (items items2 : Array Value) (n n2 : Nat) (dd dd2 : Option Addr) (sl sl2 : Array (Option Value)) (hsz : items.size = items2.size) (A : Around) (R : Result → Shared → Prop) (s : Shared)
    (hl : s.heap.get? l = some { cls := .type "list", dict := dd, data := .seq items n, slots := sl }) (hb : s.heap.get? b = some { cls := .type "list", dict := dd2, data := .seq items2 n2, slots := sl2 })
    (he : ∀ j (h1 : j < items.size) (h2 : j < items2.size), EqIn P w A.in1 s items[j] items2[j]) (h : R (.ok (.ret (.bool false))) s) :
    wpAny (model P w) A.in1 (Builtin.«list.__ne__» ⟨[.ref l, .ref b], []⟩) (fun fin s' => match fin with | .done f => R (.ok f) s' | .again c' => c'.quiet = true ∧ codeAny (model P w) A c' R s') (fun e s' => R (.error e) s') s := by
  obtain ⟨hp, g, d, tk, os⟩ := s
  have f3 := AutoSeq1.sub_list_list
  have hne : ¬ (items.size != items2.size) = true := by simp [hsz]
  wp_walk using wpAny_loadPart' hl, wpAny_loadPart' hb
  exact ⟨plainId_quiet plain_eq_loop _, codeAny_builtin entry_eq_loop (by
    rw [Around.under_plainId plain_eq_loop _]
    exact niList_loop l b items items2 n n2 dd dd2 sl sl2 hsz _ 0 rfl A R _ hl hb he h)⟩
theorem rn_list {l b : Addr} {items items2 : Array Value} {A : Around} {s : Shared} {E : Value → Shared → Prop} {Q : Value → Shared → Prop} (hl : s.heap.IsList l items) (hb : s.heap.IsList b items2) (hsz : items.size = items2.size) (hu : A.units < cLine)
    (he : ∀ j (h1 : j < items.size) (h2 : j < items2.size), EqIn P w A.in1 s items[j] items2[j]) (h : Q (.bool false) s) : wpAny (model P w) A (richCompare .NotEq (.ref l) (.ref b)) Q E s := by
  obtain ⟨⟨c1, dd, data, sl⟩, ho, hc, n, hd⟩ := id hl
  obtain ⟨⟨c2, dd2, data2, sl2⟩, ho2, hc2, n2, hd2⟩ := id hb
  simp only at hc hd hc2 hd2
  subst hc hd hc2 hd2
  refine wpAny_richCompare_same_room (op := .NotEq) ⟨_, ho, rfl⟩ ⟨_, ho2, rfl⟩ F.slot_list_ne ?_ hu
  refine wpAny_call (codeAny_call_builtin F.slot_list_ne.plain F.entry_list_ne (F.slot_list_ne.check _ _ _ _ _ _ _ _ ⟨_, ho, rfl⟩ (F.args_list_ne_2 _ _) ?_))
  exact niList l b items items2 n n2 dd dd2 sl sl2 hsz A (wants (fun v s' => v ≠ .notImplemented ∧ Q v s') E) s ho ho2 he (show Value.bool false ≠ Value.notImplemented ∧ Q (.bool false) s from ⟨(fun x => nomatch x), h⟩)
theorem rn_tuple {l b : Addr} {items items2 : Array Value} {A : Around} {s : Shared} {E : Value → Shared → Prop} {Q : Value → Shared → Prop} (hl : s.heap.IsTuple l items) (hb : s.heap.IsTuple b items2) (hsz : items.size = items2.size) (hu : A.units < cLine)
    (he : ∀ j (h1 : j < items.size) (h2 : j < items2.size), EqIn P w A.in1 s items[j] items2[j]) (h : Q (.bool false) s) : wpAny (model P w) A (richCompare .NotEq (.ref l) (.ref b)) Q E s := by
  obtain ⟨⟨c1, dd, data, sl⟩, ho, hc, n, hd⟩ := id hl
  obtain ⟨⟨c2, dd2, data2, sl2⟩, ho2, hc2, n2, hd2⟩ := id hb
  simp only at hc hd hc2 hd2
  subst hc hd hc2 hd2
  refine wpAny_richCompare_same_room (op := .NotEq) ⟨_, ho, rfl⟩ ⟨_, ho2, rfl⟩ F.slot_tuple_ne (wpAny_call_entry F.slot_tuple_ne ⟨_, ho, rfl⟩ F.entry_tuple_ne ?_ (F.args_tuple_ne_2 _ _)) hu
  obtain ⟨hp, g, d, tk, os⟩ := s
  have f2 := AutoSeq1.sub_tuple_tuple
  have hZ : (items.toList.zip items2.toList).length = items.size := by simp [hsz]
  wp_walk using wpAny_loadPart' ho, wpAny_loadPart' ho2, wpAny_forIn_list _ (fun rest b s' => b.1 = none ∧ s' = ⟨hp, g, d, tk, os⟩ ∧ ∃ i, rest = (items.toList.zip items2.toList).drop i) _
  case turn =>
    rintro ⟨y, x⟩ rest b s' ⟨hb', rfl, i, hz⟩
    have lt0 : i < (items.toList.zip items2.toList).length := by
      rcases Nat.lt_or_ge i (items.toList.zip items2.toList).length with h' | h'
      · exact h'
      · rw [List.drop_of_length_le h'] at hz; cases hz
    have h1 : i < items.size := hZ ▸ lt0
    have h2 : i < items2.size := hsz ▸ h1
    rw [List.drop_eq_getElem_cons lt0] at hz
    injection hz with hyx hrest
    have hy : y = items[i] := by have := congrArg Prod.fst hyx; simpa using this
    have hx : x = items2[i] := by have := congrArg Prod.snd hyx; simpa using this
    subst hy hx
    refine wpAny_bind (he i h1 h2 _ _ ?_)
    wp_walk
    exact ⟨rfl, rfl, i + 1, hrest⟩
  case fin =>
    rintro ⟨b1, b2⟩ s' ⟨hb', rfl, i, hz⟩
    simp only at hb'
    subst hb'
    wp_walk
    refine ⟨_, rfl, ?_⟩
    have e : Builtin.Tuple.tupleCompareSizes .NotEq items.size items2.size = Value.bool false := by simp [Builtin.Tuple.tupleCompareSizes, hsz]
    first | (rw [e]; exact ⟨(fun x => nomatch x), h⟩) | (simpa [Builtin.Tuple.tupleCompareSizes, hsz] using h)
  case h => exact ⟨rfl, rfl, 0, rfl⟩
end
section
variable {P : Program} {w : World} {κ : Type} [DecidableEq κ] {knd : KeyKind P w κ} {A : Around} {E : Value → Shared → Prop} {s : Shared}
theorem rn_dict {a b : Addr} {ka kb : List (κ × Value)} {Q : Value → Shared → Prop} (ha : (a == sysModules) = false) (hb : (b == sysModules) = false)
    (da : s.heap.DictOf knd a ka) (db : s.heap.DictOf knd b kb) (hu : A.units < cLine) (hlen : ka.length = kb.length) (hits : ∀ (i : Nat) (k : κ) (v : Value), ka[i]? = some (k, v) → ∃ y, valueAt kb k = some y ∧ EqIn P w A.in1 s v y) (h : Q (.bool false) s) :
    wpAny (model P w) A (richCompare .NotEq (.ref a) (.ref b)) Q E s := by
  refine wpAny_richCompare_same_room (op := .NotEq) da.typeIs db.typeIs PySem.F.slot_dict_ne (wpAny_call_entry PySem.F.slot_dict_ne da.typeIs PySem.F.entry_dict_ne ?_ (PySem.F.args_dict_ne_2 _ _)) hu
  show wpAny _ _ (Builtin.Dict.dictSlotArgs "__ne__" ⟨[.ref a, .ref b], []⟩ >>= _) _ _ s
  unfold Builtin.Dict.dictSlotArgs
  refine wpAny_bind (wpAny_bind (wpAny_notOrdered_dict da.typeIs ?_))
  show wpAny _ _ (pure (Value.ref a, Value.ref b)) _ _ s
  refine wpAny_pure (wpAny_bind (wpAny_isInstance (T := "dict") db.typeIs PySem.F.sub_dict_dict ?_))
  simp only [Bool.not_true, Bool.false_eq_true, if_false]
  refine wpAny_bind (wpAny_pure (wpAny_bind (wpAny_pure (wpAny_bind (alike_pairs ha hb da db hlen hits ?_)))))
  exact wpAny_pure ⟨_, rfl, (fun x => nomatch x), by simpa using h⟩
end
end L2
set_option Elab.async false
set_option linter.all false
set_option maxRecDepth 100000
set_option exponentiation.threshold 2000
namespace L2
open PySem PySem.Spec PyProof.Rows
def isTup : DY → Bool
  | .tup _ => true
  | _ => false
def isStr : DY → Bool
  | .str _ => true
  | _ => false
def wholeY : DY → Bool
  | .int _ => true
  | _ => false
def endY : DY → Bool
  | .non => true
  | .int _ => true
  | _ => false
def leY : DY → DY → Bool
  | .int i, .int j => decide (i ≤ j)
  | _, _ => true
def spanY : DY → Bool
  | .tup [x, y] => endY x && endY y && leY x y
  | _ => false
def fieldS (x : Str) : Bool := decide (1 ≤ x.length) && decide (x.length ≤ 8) && x.cps.toList.all letterOk
def fieldY : DY → Bool
  | .str x => fieldS x
  | _ => false
def wpartY : DY → Bool
  | .tup [f, lo, hi] => fieldY f && spanY (.tup [lo, hi])
  | _ => false
def ppartY : DY → Bool
  | .tup [f, n] => fieldY f && wholeY n
  | _ => false
def headS : DY → Option Str
  | .tup (.str x :: _) => some x
  | _ => none
def ascY : List DY → Bool
  | d :: e :: r => (match headS d, headS e with | some x, some y => decide (x.cps.toList < y.cps.toList) | _, _ => false) && ascY (e :: r)
  | _ => true
def wishY : DY → Bool
  | .tup ds => ds.all wpartY && ascY ds
  | _ => false
def pieceY : DY → Bool
  | .tup ds => ds.all ppartY && ascY ds
  | _ => false
def spLookD (f : DY → Bool) : Sp := fun vs H Q _ => ∃ (v : V) (d : DY), vs = [v] ∧ RepY H d v ∧ ∀ H', Same H H' → Q (.bl (f d)) H'
def spLookE (P : List DY → Prop) (f : List DY → Bool) : Sp := fun vs H Q _ => ∃ (v : V) (ds : List DY), vs = [v] ∧ RepY H (.tup ds) v ∧ P ds ∧ ∀ H', Same H H' → Q (.bl (f ds)) H'
theorem wholeY_ty (d : DY) : (tyY d == "int") = wholeY d := by cases d <;> rfl
theorem endY_V {H : Hp} {d : DY} {v : V} (h : RepY H d v) : endV v = endY d := by
  cases d with
  | non => rw [RepY] at h; subst h; rfl
  | bl b => rw [RepY] at h; subst h; rfl
  | int i => rw [RepY] at h; subst h; rfl
  | str x => rw [RepY] at h; obtain ⟨rfl, _⟩ := h; rfl
  | lst ds => rw [RepY] at h; obtain ⟨a, xs, rfl, _⟩ := h; rfl
  | tup ds => rw [RepY] at h; obtain ⟨a, xs, rfl, _⟩ := h; rfl
  | dic => rw [RepY] at h; obtain ⟨a, rfl, _⟩ := h; rfl
  | da d => rw [RepY] at h; obtain ⟨a, u, rfl, _⟩ := h; rfl
theorem leY_V {H : Hp} {d e : DY} {v w : V} (h : RepY H d v) (h' : RepY H e w) (hd : endY d = true) (he : endY e = true) : leV v w = leY d e := by
  cases d with
  | non => rw [RepY] at h; subst h; cases e <;> first | (rw [RepY] at h'; subst h'; rfl) | (cases he)
  | int i => rw [RepY] at h; subst h; cases e <;> first | (rw [RepY] at h'; subst h'; rfl) | (cases he)
  | _ => cases hd
theorem RepYs.two {H : Hp} {d e : DY} {xs : List V} (h : RepYs H [d, e] xs) : ∃ x y, xs = [x, y] ∧ RepY H d x ∧ RepY H e y := by
  rw [RepYs] at h
  obtain ⟨x, r, rfl, h1, h⟩ := h
  rw [RepYs] at h
  obtain ⟨y, r, rfl, h2, h⟩ := h
  rw [RepYs] at h
  subst h
  exact ⟨x, y, rfl, h1, h2⟩
theorem RepYs.three {H : Hp} {d e f : DY} {xs : List V} (h : RepYs H [d, e, f] xs) : ∃ x y z, xs = [x, y, z] ∧ RepY H d x ∧ RepY H e y ∧ RepY H f z := by
  rw [RepYs] at h
  obtain ⟨x, r, rfl, h1, h⟩ := h
  obtain ⟨y, z, rfl, h2, h3⟩ := h.two
  exact ⟨x, y, z, rfl, h1, h2, h3⟩
theorem RepYs.mk2 {H : Hp} {d e : DY} {x y : V} (h1 : RepY H d x) (h2 : RepY H e y) : RepYs H [d, e] [x, y] := by
  rw [RepYs]
  refine ⟨x, [y], rfl, h1, ?_⟩
  rw [RepYs]
  refine ⟨y, [], rfl, h2, ?_⟩
  rw [RepYs]
theorem spanY_len {ds : List DY} (h : ds.length ≠ 2) : spanY (.tup ds) = false := by
  match ds, h with
  | [], _ => rfl
  | [_], _ => rfl
  | [_, _], h => exact absurd rfl h
  | _ :: _ :: _ :: _, _ => rfl
theorem spanY_V {K : PySem.W.Frag} {H : Hp} {d : DY} {v : V} (h : RepY H d v) : isSpanV H v = spanY d ∧ PairTy K H v := by
  cases d with
  | tup ds =>
    rw [RepY] at h
    obtain ⟨a, xs, rfl, h1, h0, h2⟩ := h
    by_cases hl : ds.length = 2
    · obtain ⟨x, y, rfl⟩ : ∃ x y, ds = [x, y] := by
        match ds, hl with
        | [x, y], _ => exact ⟨x, y, rfl⟩
      obtain ⟨u, w, rfl, r1, r2⟩ := h2.two
      refine ⟨?_, ?_⟩
      · unfold isSpanV
        simp only [h1]
        show (endV u && endV w && leV u w) = (endY x && endY y && leY x y)
        rw [endY_V r1, endY_V r2]
        cases e1 : endY x with
        | false => rfl
        | true =>
          cases e2 : endY y with
          | false => rfl
          | true => rw [leY_V r1 r2 e1 e2]
      · intro a' p q e e'
        cases e
        rw [h1] at e'
        injection e' with e'
        injection e' with e'
        injection e' with z1 z2
        injection z2 with z2 _
        subst z1 z2
        exact ⟨_, _, r1.ty, r2.ty⟩
    · have lx := h2.length
      refine ⟨?_, ?_⟩
      · rw [spanY_len hl]
        unfold isSpanV
        simp only [h1]
        match xs, lx with
        | [], _ => rfl
        | [_], _ => rfl
        | [_, _], lx => exact absurd lx.symm hl
        | _ :: _ :: _ :: _, _ => rfl
      · intro a' p q e e'
        cases e
        rw [h1] at e'
        injection e' with e'
        injection e' with e'
        subst e'
        exact absurd lx.symm hl
  | non => rw [RepY] at h; subst h; exact ⟨rfl, fun a x y e _ => by cases e⟩
  | bl b => rw [RepY] at h; subst h; exact ⟨rfl, fun a x y e _ => by cases e⟩
  | int i => rw [RepY] at h; subst h; exact ⟨rfl, fun a x y e _ => by cases e⟩
  | str x => rw [RepY] at h; obtain ⟨rfl, _⟩ := h; exact ⟨rfl, fun a x y e _ => by cases e⟩
  | lst ds =>
    rw [RepY] at h
    obtain ⟨a, xs, rfl, h1, _⟩ := h
    exact ⟨by unfold isSpanV; simp only [h1]; rfl, fun a' x y e e' => by cases e; rw [h1] at e'; cases e'⟩
  | dic =>
    rw [RepY] at h
    obtain ⟨a, rfl, h1⟩ := h
    exact ⟨by unfold isSpanV; simp only [h1]; rfl, fun a' x y e e' => by cases e; rw [h1] at e'; cases e'⟩
  | da d =>
    rw [RepY] at h
    obtain ⟨a, u, rfl, h1, _⟩ := h
    exact ⟨by unfold isSpanV; simp only [h1]; rfl, fun a' x y e e' => by cases e; rw [h1] at e'; cases e'⟩
theorem ge_aB (c : Nat) : (!decide ((⟨#[c]⟩ : Str).cps.toList < ("a" : Str).cps.toList)) = decide (97 ≤ c) := by
  rw [cps_a]
  show (!decide (([c] : List Nat) < [97])) = _
  by_cases h : 97 ≤ c
  · have : ¬ ([c] : List Nat) < [97] := by
      intro z
      cases z with
      | rel z => exact absurd z (by omega)
      | cons z => cases z
    rw [decide_eq_false this, decide_eq_true h]
    rfl
  · have : ([c] : List Nat) < [97] := List.Lex.rel (by omega)
    rw [decide_eq_true this, decide_eq_false h]
    rfl
theorem le_zB (c : Nat) : (!decide (("z" : Str).cps.toList < (⟨#[c]⟩ : Str).cps.toList)) = decide (c ≤ 122) := by
  rw [cps_z]
  show (!decide (([122] : List Nat) < [c])) = _
  by_cases h : c ≤ 122
  · have : ¬ ([122] : List Nat) < [c] := by
      intro z
      cases z with
      | rel z => exact absurd z (by omega)
      | cons z => cases z
    rw [decide_eq_false this, decide_eq_true h]
    rfl
  · have : ([122] : List Nat) < [c] := List.Lex.rel (by omega)
    rw [decide_eq_true this, decide_eq_false h]
    rfl
theorem bls_all {α : Type} (f : α → Bool) (l : List α) : (l.map f).all id = l.all f := by
  induction l with
  | nil => rfl
  | cons x l ih => rw [List.map_cons, List.all_cons, List.all_cons, ih]; rfl
theorem no_trueY {P : Prop} (h : false = true) : P := absurd h Bool.false_ne_true
theorem fieldY_form {d : DY} (h : fieldY d = true) : ∃ x, d = .str x ∧ fieldS x = true := by
  cases d with
  | str x => exact ⟨x, rfl, h⟩
  | _ => exact no_trueY h
theorem wpart_form {d : DY} (h : wpartY d = true) : ∃ x lo hi, d = .tup [.str x, lo, hi] ∧ fieldS x = true ∧ spanY (.tup [lo, hi]) = true := by
  cases d with
  | tup ds =>
    match ds, h with
    | [], h => exact no_trueY h
    | [_], h => exact no_trueY h
    | [_, _], h => exact no_trueY h
    | [f, lo, hi], h =>
      obtain ⟨h1, h2⟩ := (Bool.and_eq_true _ _).mp (show (fieldY f && spanY (.tup [lo, hi])) = true from h)
      obtain ⟨x, rfl, h3⟩ := fieldY_form h1
      exact ⟨x, lo, hi, rfl, h3, h2⟩
    | _ :: _ :: _ :: _ :: _, h => exact no_trueY h
  | _ => exact no_trueY h
theorem ppart_form {d : DY} (h : ppartY d = true) : ∃ x n, d = .tup [.str x, n] ∧ fieldS x = true ∧ wholeY n = true := by
  cases d with
  | tup ds =>
    match ds, h with
    | [], h => exact no_trueY h
    | [_], h => exact no_trueY h
    | [f, n], h =>
      obtain ⟨h1, h2⟩ := (Bool.and_eq_true _ _).mp (show (fieldY f && wholeY n) = true from h)
      obtain ⟨x, rfl, h3⟩ := fieldY_form h1
      exact ⟨x, n, rfl, h3, h2⟩
    | _ :: _ :: _ :: _, h => exact no_trueY h
  | _ => exact no_trueY h
theorem wpart_head {d : DY} (h : wpartY d = true) : (headS d).isSome = true := by
  obtain ⟨x, lo, hi, rfl, _⟩ := wpart_form h
  rfl
theorem ppart_head {d : DY} (h : ppartY d = true) : (headS d).isSome = true := by
  obtain ⟨x, n, rfl, _⟩ := ppart_form h
  rfl
theorem wpart_len {ds : List DY} (h : ds.length ≠ 3) : wpartY (.tup ds) = false := by
  match ds, h with
  | [], _ => rfl
  | [_], _ => rfl
  | [_, _], _ => rfl
  | [_, _, _], h => exact absurd rfl h
  | _ :: _ :: _ :: _ :: _, _ => rfl
theorem ppart_len {ds : List DY} (h : ds.length ≠ 2) : ppartY (.tup ds) = false := by
  match ds, h with
  | [], _ => rfl
  | [_], _ => rfl
  | [_, _], h => exact absurd rfl h
  | _ :: _ :: _ :: _, _ => rfl
theorem head_rep {H : Hp} {d : DY} {v : V} {x : Str} (h : RepY H d v) (e : headS d = some x) : ∃ a r, v = .ref a ∧ H a = some (.tup (.str x :: r)) := by
  match d, e with
  | .tup (.str y :: ds), e =>
    rw [RepY] at h
    obtain ⟨a, xs, rfl, h1, _, h2⟩ := h
    rw [RepYs] at h2
    obtain ⟨z, r, rfl, h3, _⟩ := h2
    rw [RepY] at h3
    obtain ⟨rfl, _⟩ := h3
    have e : some y = some x := e
    cases e
    exact ⟨a, r, rfl, h1⟩
def ascB (d e : DY) : Bool := match headS d, headS e with
  | some x, some y => decide (x.cps.toList < y.cps.toList)
  | _, _ => false
theorem ascB_of {d e : DY} {x y : Str} (h1 : headS d = some x) (h2 : headS e = some y) : ascB d e = decide (x.cps.toList < y.cps.toList) := by unfold ascB; rw [h1, h2]
theorem ascY_all : ∀ ds : List DY, ascY ds = ((List.range (ds.length - 1)).map (fun i => ascB (ds.getD i .non) (ds.getD (i + 1) .non))).all id
  | [] => rfl
  | [d] => rfl
  | d :: e :: r => by
    have ih := ascY_all (e :: r)
    have l1 : (d :: e :: r).length - 1 = r.length + 1 := by simp
    have l2 : (e :: r).length - 1 = r.length := by simp
    rw [l1, List.range_succ_eq_map, List.map_cons, List.all_cons, List.map_map]
    rw [l2] at ih
    show (_ && ascY (e :: r)) = _
    rw [ih]
    rfl
end L2
set_option Elab.async false
set_option linter.all false
set_option maxRecDepth 100000
set_option exponentiation.threshold 2000
namespace L2
open PySem PySem.Spec PyProof.Rows
section
variable {X : Cx}
theorem picked_le (lo hi : Option Int) (n : Nat) : (Builtin.Str.strSliceIndices lo hi 1 n).length ≤ n ∧ ∀ j, hi = some j → 0 ≤ j → ((Builtin.Str.strSliceIndices lo hi 1 n).length : Int) ≤ j := by
  refine ⟨indices_len_le lo hi n, fun j e h0 => ?_⟩
  subst e
  unfold Builtin.Str.strSliceIndices sliceRange
  cases lo <;> simp only [show (1 : Int) > 0 by decide, if_true, List.length_map, List.length_range] <;> (split <;> (try split) <;> (try split) <;> (try simp only [Int.ediv_one]) <;> omega)
def rSlStr : V → Option Int → Option Int → Hp → VK → Prop := fun x lo hi H Q => ∃ y : Str, x = .str y ∧ y.length ≤ 100000 ∧ ∀ z : Str, z.length ≤ y.length → (∀ j, hi = some j → 0 ≤ j → (z.length : Int) ≤ j) → Q (.str z) H
theorem sl_str : SlR X rSlStr := by
  intro pins s σ H x v vl vu lo hi sl Q I rx hs pl pu h
  obtain ⟨y, rfl, hl, q⟩ := h
  obtain ⟨t, rfl⟩ := (show ∃ t, v = Value.str y t from rx)
  obtain ⟨l, el, e1⟩ : ∃ l : Option (Int × Tok), vl = partValue l ∧ l.map (·.1) = lo := by
    cases pl with
    | none => exact ⟨none, rfl, rfl⟩
    | int i t => exact ⟨some (i, t), rfl, rfl⟩
  obtain ⟨u, eu, e2⟩ : ∃ l : Option (Int × Tok), vu = partValue l ∧ l.map (·.1) = hi := by
    cases pu with
    | none => exact ⟨none, rfl, rfl⟩
    | int i t => exact ⟨some (i, t), rfl, rfl⟩
  have hS : s.heap.IsSlice sl l u none := by
    obtain ⟨o, h1, h2, h3⟩ := hs
    exact ⟨o, h1, h2, by rw [h3, el, eu]; rfl⟩
  have pk : slicePicked y l u none = Builtin.Str.strSliceIndices lo hi 1 y.length := by unfold slicePicked; rw [e1, e2]; rfl
  obtain ⟨p1, p2⟩ := picked_le lo hi y.length
  have hsz : (100000 : Nat) ≤ sizeLine := by decide
  refine ⟨"str", _, F.slot_str_getitem.lookup, typeIs_str s y t, ?_⟩
  refine getItem_meets (typeIs_str s y t) (by decide) F.slot_str_getitem F.entry_str_getitem (F.args_str_getitem_2 _ _) (meets_str_getitem_slice y t sl l u none rfl) ⟨hS, ?_⟩
  unfold sliceMade
  rw [pk]
  split
  · rename_i hc
    have hc : (Builtin.Str.strSliceIndices lo hi 1 y.length).length = y.length := by simpa using hc
    exact ⟨.str y, H, I, ⟨t, rfl⟩, q y (Nat.le_refl _) fun j e h0 => by have := p2 j e h0; omega⟩
  · have hz : (⟨((Builtin.Str.strSliceIndices lo hi 1 y.length).filterMap (y.cps[·]?)).toArray⟩ : Str).length ≤ (Builtin.Str.strSliceIndices lo hi 1 y.length).length := by
      show (List.filterMap _ _).toArray.size ≤ _
      rw [List.size_toArray]
      exact List.length_filterMap_le _ _
    exact ⟨by omega, ⟨.str _, H, I.tok _, ⟨_, rfl⟩, q _ (by omega) fun j e h0 => by have := p2 j e h0; omega⟩⟩
def rMulS : R2 := fun x y H Q => ∃ (z : Str) (k : Nat), x = .str z ∧ y = .int (k : Int) ∧ 1 < k ∧ k ≤ 100 ∧ z.length ≤ 10000 ∧ ∀ r : Str, r.length ≤ z.length * k → Q (.str r) H
theorem rep_size (k : Nat) (a : Array Nat) (b : Array Nat) : ((List.replicate k a).foldl (· ++ ·) b).size = b.size + k * a.size := by
  induction k generalizing b with
  | zero => simp
  | succ k ih => rw [List.replicate_succ, List.foldl_cons, ih, Array.size_append, Nat.succ_mul]; omega
theorem op_mulS : OpR X (binaryOp .Mult) rMulS := by
  intro pins s σ H x y v u Q I rx ry h
  obtain ⟨z, k, rfl, rfl, k1, k2, hz, q⟩ := h
  obtain ⟨t, rfl⟩ := (show ∃ t, v = Value.str z t from rx)
  obtain ⟨t', rfl⟩ := (show ∃ t, u = Value.int k t from ry)
  have hm : z.length * k ≤ 1000000 := Nat.le_trans (Nat.mul_le_mul hz k2) (by decide)
  have hsz : (1000000 : Nat) ≤ sizeLine := by decide
  refine PySem.P.mul_str ?_ (fun _ _ => ?_) (fun _ _ => ?_) ?_
  · rw [decide_eq_false (by omega), decide_eq_false (by omega)]; rfl
  · have : (100000 : Int) ≤ (2 ^ 63 - 1) / (k : Int) := by
      apply (Int.le_ediv_iff_mul_le (by omega)).mpr
      omega
    omega
  · rw [Int.toNat_natCast]
    exact decide_eq_false (by have : z.length * k ≤ sizeLine := by omega
                              exact Nat.not_lt.mpr this)
  · rw [if_neg (by omega)]
    split
    · exact ⟨.str z, H, I, ⟨t, rfl⟩, q z (Nat.le_mul_of_pos_right _ (by omega))⟩
    · have hl : (⟨(List.replicate (k : Int).toNat z.cps).foldl (· ++ ·) #[]⟩ : Str).length = z.length * k := by
        show ((List.replicate (k : Int).toNat z.cps).foldl (· ++ ·) #[]).size = _
        rw [rep_size, Int.toNat_natCast, Nat.mul_comm]
        show 0 + _ = _
        rw [Nat.zero_add]
        rfl
      exact ⟨by rw [hl]; omega, ⟨.str _, H, I.tok _, ⟨_, rfl⟩, q _ (by rw [hl]; exact Nat.le_refl _)⟩⟩
end
section
variable {X : Cx} {pins : List (Addr × Obj)} {σ : St} {H : Hp} {s : Shared}
theorem rnIn_rep (I : Inv X pins σ H s) (A : Around) (d : DY) (v v' : V) (u u' : Value) (h : RepY H d v) (h' : RepY H d v') (r : RelV v u) (r' : RelV v' u') (z : A.units + depthY d < cLine) {E : Value → Shared → Prop} {Q : Value → Shared → Prop} (q : Q (.bool false) s) :
    wpAny (model X.prog X.w) A (richCompare .NotEq u u') Q E s := by
  cases d with
  | non =>
    rw [RepY] at h h'
    subst h h'
    exact rcNeAt_rep I A .non .non _ _ _ _ (by rw [Rep]) (by rw [Rep]) r r' (show A.units + 0 < cLine by omega) X.prog X.w _ _ q
  | bl b =>
    rw [RepY] at h h'
    subst h h'
    have := rcNeAt_rep I A (.bl b) (.bl b) _ _ _ _ (by rw [Rep]) (by rw [Rep]) r r' (show A.units + 0 < cLine by omega)
    rw [pyEq_refl] at this
    exact this X.prog X.w _ _ q
  | int b =>
    rw [RepY] at h h'
    subst h h'
    have := rcNeAt_rep I A (.int b) (.int b) _ _ _ _ (by rw [Rep]) (by rw [Rep]) r r' (show A.units + 0 < cLine by omega)
    rw [pyEq_refl] at this
    exact this X.prog X.w _ _ q
  | str b =>
    rw [RepY] at h h'
    obtain ⟨rfl, _⟩ := h
    obtain ⟨rfl, _⟩ := h'
    have := rcNeAt_rep I A (.str b) (.str b) _ _ _ _ (by rw [Rep]) (by rw [Rep]) r r' (show A.units + 0 < cLine by omega)
    rw [pyEq_refl] at this
    exact this X.prog X.w _ _ q
  | lst ds =>
    rw [RepY] at h h'
    obtain ⟨a, xs, rfl, h1, _, h2⟩ := h
    obtain ⟨a', xs', rfl, h1', _, h2'⟩ := h'
    cases (show u = Value.ref a from r)
    cases (show u' = Value.ref a' from r')
    obtain ⟨_, its, n, rv, hg⟩ := (show ObjOk X.prog X.w H s.heap a (.lst xs) from I.hok a _ h1)
    obtain ⟨_, its', n', rv', hg'⟩ := (show ObjOk X.prog X.w H s.heap a' (.lst xs') from I.hok a' _ h1')
    have l1 := h2.length
    have l2 := h2'.length
    have l3 := rv.length
    have l4 := rv'.length
    rw [depthY] at z
    refine rn_list ⟨_, hg, rfl, _, rfl⟩ ⟨_, hg', rfl, _, rfl⟩ (by simp only [List.size_toArray]; omega) (by omega) (fun j k1 k2 => ?_) q
    have := eqIns_rep I A.in1 ds xs xs' its its' h2 h2' rv rv' (by rw [Around.in1_units]; omega) j (by simpa using k1) (by simpa using k2)
    simpa using this
  | tup ds =>
    rw [RepY] at h h'
    obtain ⟨a, xs, rfl, h1, _, h2⟩ := h
    obtain ⟨a', xs', rfl, h1', _, h2'⟩ := h'
    cases (show u = Value.ref a from r)
    cases (show u' = Value.ref a' from r')
    obtain ⟨_, its, rv, o, hg, hc, _, n, hd⟩ := (show ObjOk X.prog X.w H s.heap a (.tup xs) from I.hok a _ h1)
    obtain ⟨_, its', rv', o', hg', hc', _, n', hd'⟩ := (show ObjOk X.prog X.w H s.heap a' (.tup xs') from I.hok a' _ h1')
    have l1 := h2.length
    have l2 := h2'.length
    have l3 := rv.length
    have l4 := rv'.length
    rw [depthY] at z
    refine rn_tuple ⟨_, hg, hc, _, hd⟩ ⟨_, hg', hc', _, hd'⟩ (by simp only [List.size_toArray]; omega) (by omega) (fun j k1 k2 => ?_) q
    have := eqIns_rep I A.in1 ds xs xs' its its' h2 h2' rv rv' (by rw [Around.in1_units]; omega) j (by simpa using k1) (by simpa using k2)
    simpa using this
  | dic =>
    rw [RepY] at h h'
    obtain ⟨a, rfl, h1⟩ := h
    obtain ⟨a', rfl, h1'⟩ := h'
    cases (show u = Value.ref a from r)
    cases (show u' = Value.ref a' from r')
    obtain ⟨_, hS, vs, rk, dd⟩ := dk_of I.hok h1
    obtain ⟨_, hS', vs', rk', dd'⟩ := dk_of I.hok h1'
    cases rk
    cases rk'
    exact rn_dict hS hS' dd dd' (by omega) rfl (fun i k v e => by simp at e) q
  | da d =>
    rw [RepY] at h h'
    obtain ⟨a, y, rfl, h1, h2⟩ := h
    obtain ⟨a', y', rfl, h1', h2'⟩ := h'
    cases (show u = Value.ref a from r)
    cases (show u' = Value.ref a' from r')
    obtain ⟨_, hS, vs, rk, dd⟩ := dk_of I.hok h1
    obtain ⟨_, hS', vs', rk', dd'⟩ := dk_of I.hok h1'
    rw [depthY] at z
    have l1 : 1 = vs.length := KV.length rk
    have l2 : 1 = vs'.length := KV.length rk'
    refine rn_dict hS hS' dd dd' (by omega) (by omega) (fun i k w e => ?_) q
    cases rk with
    | cons p1 p2 =>
      cases p2
      cases rk' with
      | cons p1' p2' =>
        cases p2'
        rename_i kw kw'
        obtain ⟨k0, w0⟩ := kw
        obtain ⟨k0', w0'⟩ := kw'
        obtain ⟨e1, r1⟩ := p1
        obtain ⟨e1', r1'⟩ := p1'
        dsimp only at e1 e1' r1 r1'
        subst e1 e1'
        cases i with
        | succ i => simp at e
        | zero =>
          simp at e
          obtain ⟨rfl, rfl⟩ := e
          refine ⟨w0', by simp [valueAt], eqIn_rep I A.in1 d y y' w0 w0' h2 h2' r1 r1' (by rw [Around.in1_units]; omega)⟩
end
section
variable {X : Cx}
def rNeY : R2 := fun x y H Q => ∃ d, RepY H d x ∧ RepY H d y ∧ depthY d < 60 ∧ Q (.bl false) H
theorem op_neY (hr : RoomD X) : OpR X (compareOp .NotEq) rNeY := by
  intro pins s σ H x y v u Q I rx ry h
  obtain ⟨d, h1, h2, h3, q⟩ := h
  unfold RoomD at hr
  exact rnIn_rep I X.A d x y v u h1 h2 rx ry (by omega) ⟨.bl false, H, I, rfl, q⟩
theorem rep_strs {K : PySem.W.Frag} {H : Hp} : ∀ ts : List Str, Reps K H (ts.map PD.str) (ts.map V.str)
  | [] => by show Reps K H [] []; rw [Reps]
  | n :: ns => by
    show Reps K H (.str n :: ns.map PD.str) (.str n :: ns.map V.str)
    rw [Reps]
    exact ⟨_, _, rfl, by rw [Rep], rep_strs ns⟩
theorem depth_strs : ∀ ts : List Str, depthDs (ts.map PD.str) = 0
  | [] => by show depthDs [] = 0; rw [depthDs]
  | n :: ns => by
    show depthDs (.str n :: ns.map PD.str) = 0
    rw [depthDs, depth_strs ns, depthD]
    all_goals simp
theorem eqNilS {K : PySem.W.Frag} {H : Hp} {a p : Addr} {ts : List Str} {Q : VK} (h : SqL K H a (ts.map V.str)) (hp : SqL K H p []) (q : Q (.bl ts.isEmpty) H) : rEqD K (.ref a) (.ref p) H Q := by
  refine ⟨.lst (ts.map PD.str), .lst [], by rw [Rep]; exact ⟨a, _, rfl, h, rep_strs ts⟩, by rw [Rep]; exact ⟨p, _, rfl, hp, by rw [Reps]⟩, by rw [depthD, depth_strs]; decide, ?_⟩
  cases ts with
  | nil => rw [pyEq, show pyEqs (([] : List Str).map PD.str) [] = true from pyEqs_refl []]; exact q
  | cons n ns => rw [pyEq, pyEqs_len (by simp)]; exact q
end
end L2
set_option Elab.async false
set_option linter.all false
set_option maxRecDepth 100000
set_option exponentiation.threshold 2000
namespace L2
open PySem PySem.Spec PyProof.Rows
section
variable {X : Cx}
def rEqE : R2 := fun x y H Q => ∃ a b xs, x = .ref a ∧ y = .ref b ∧ H a = some (.lst xs) ∧ H b = some (.lst []) ∧ Q (.bl xs.isEmpty) H
theorem op_eqE (hr : RoomD X) : OpR X (compareOp .Eq) rEqE := by
  intro pins s σ H x y v u Q I rx ry h
  obtain ⟨a, b, xs, rfl, rfl, ha, hb, q⟩ := h
  cases (show v = Value.ref a from rx)
  cases (show u = Value.ref b from ry)
  unfold RoomD at hr
  obtain ⟨_, its, n, rv, hg⟩ := (show ObjOk X.prog X.w H s.heap a (.lst xs) from I.hok a _ ha)
  obtain ⟨_, its', n', rv', hg'⟩ := (show ObjOk X.prog X.w H s.heap b (.lst []) from I.hok b _ hb)
  cases rv'
  cases xs with
  | nil =>
    cases rv
    exact rc_list ⟨_, hg, rfl, _, rfl⟩ ⟨_, hg', rfl, _, rfl⟩ rfl (by omega) (fun j k1 k2 => absurd k1 (by simp)) ⟨.bl true, H, I, rfl, q⟩
  | cons x xs =>
    have l := rv.length
    exact SeqAt.RcAt.lists_lengths (l := a) (b := b) ⟨_, hg, rfl, _, rfl⟩ ⟨_, hg', rfl, _, rfl⟩ (by simp; intro z; rw [z] at l; simp at l) (by omega) X.prog X.w _ _ ⟨.bl false, H, I, rfl, q⟩
end
mutual
def szY : DY → Nat
  | .str x => x.length
  | .lst ds => max ds.length (szYs ds)
  | .tup ds => max ds.length (szYs ds)
  | .da d => szY d
  | _ => 0
def szYs : List DY → Nat
  | [] => 0
  | d :: ds => max (szY d) (szYs ds)
end
theorem szYs_le : ∀ {ds : List DY} {m : Nat}, (∀ d ∈ ds, szY d ≤ m) → szYs ds ≤ m
  | [], m, _ => by rw [szYs]; exact Nat.zero_le _
  | d :: ds, m, h => by
    rw [szYs]
    have h1 := h d (List.mem_cons_self ..)
    have h2 := szYs_le fun e he => h e (List.mem_cons_of_mem _ he)
    omega
theorem szYs_ge : ∀ {ds : List DY} {d : DY}, d ∈ ds → szY d ≤ szYs ds
  | [], d, h => nomatch h
  | e :: ds, d, h => by
    rw [szYs]
    rcases List.mem_cons.mp h with rfl | h
    · omega
    · have := szYs_ge h
      omega
theorem sz_lst {ds : List DY} {m : Nat} (h : ∀ d ∈ ds, szY d ≤ m) (hl : ds.length ≤ m) : szY (.lst ds) ≤ m := by rw [szY]; have := szYs_le h; omega
theorem sz_tup {ds : List DY} {m : Nat} (h : ∀ d ∈ ds, szY d ≤ m) (hl : ds.length ≤ m) : szY (.tup ds) ≤ m := by rw [szY]; have := szYs_le h; omega
theorem sz_in {ds : List DY} {d : DY} {m : Nat} (h : szY (.tup ds) ≤ m) (hd : d ∈ ds) : szY d ≤ m := by rw [szY] at h; have := szYs_ge hd; omega
theorem sz_len {ds : List DY} {m : Nat} (h : szY (.tup ds) ≤ m) : ds.length ≤ m := by rw [szY] at h; omega
theorem dp_tup {ds : List DY} {m : Nat} (h : ∀ d ∈ ds, depthY d ≤ m) : depthY (.tup ds) ≤ m + 1 := by rw [depthY]; have := depthYs_le h; omega
theorem dp_lst {ds : List DY} {m : Nat} (h : ∀ d ∈ ds, depthY d ≤ m) : depthY (.lst ds) ≤ m + 1 := by rw [depthY]; have := depthYs_le h; omega
theorem dp_in {ds : List DY} {d : DY} {m : Nat} (h : depthY (.tup ds) ≤ m + 1) (hd : d ∈ ds) : depthY d ≤ m := by rw [depthY] at h; have := depthYs_ge hd; omega
theorem az_mem (c : Nat) : (!(!(Builtin.Str.occurrences ("abcdefghijklmnopqrstuvwxyz" : Str) (⟨#[c]⟩ : Str) 0 ("abcdefghijklmnopqrstuvwxyz" : Str).length 1).isEmpty)) = !letterOk c := by
  rw [PySem.StrLaws.found_one]
  congr 1
  have e : ("abcdefghijklmnopqrstuvwxyz" : Str).cps.toList = (List.range 26).map (· + 97) := by decide +kernel
  rw [e]
  by_cases h : letterOk c = true
  · rw [h]
    have h1 : 97 ≤ c := of_decide_eq_true ((Bool.and_eq_true _ _).mp h).1
    have h2 : c ≤ 122 := of_decide_eq_true ((Bool.and_eq_true _ _).mp h).2
    exact decide_eq_true (List.mem_map.mpr ⟨c - 97, List.mem_range.mpr (by omega), by omega⟩)
  · rw [Bool.eq_false_iff.mpr h]
    refine decide_eq_false fun z => h ?_
    obtain ⟨k, hk, rfl⟩ := List.mem_map.mp z
    have := List.mem_range.mp hk
    unfold letterOk
    rw [decide_eq_true (by omega), decide_eq_true (by omega)]
    rfl
theorem RepYs.take {H : Hp} : ∀ {ds : List DY} {xs : List V} (k : Nat), RepYs H ds xs → RepYs H (ds.take k) (xs.take k)
  | [], xs, k, h => by rw [RepYs] at h; subst h; simp; exact .nil
  | d :: ds, xs, 0, h => by simp; exact .nil
  | d :: ds, xs, k + 1, h => by
    rw [RepYs] at h
    obtain ⟨x, r, rfl, h1, h2⟩ := h
    rw [List.take_succ_cons, List.take_succ_cons]
    exact .cons h1 (RepYs.take k h2)
theorem RepYs.drop {H : Hp} : ∀ {ds : List DY} {xs : List V} (k : Nat), RepYs H ds xs → RepYs H (ds.drop k) (xs.drop k)
  | [], xs, k, h => by rw [RepYs] at h; subst h; simp; exact .nil
  | d :: ds, xs, 0, h => by simpa using h
  | d :: ds, xs, k + 1, h => by
    rw [RepYs] at h
    obtain ⟨x, r, rfl, h1, h2⟩ := h
    rw [List.drop_succ_cons, List.drop_succ_cons]
    exact RepYs.drop k h2
theorem RepYs.set {H : Hp} {d : DY} {x : V} (h : RepY H d x) : ∀ {ds : List DY} {xs : List V} (k : Nat), RepYs H ds xs → RepYs H (ds.set k d) (xs.set k x)
  | [], xs, k, h => by rw [RepYs] at h; subst h; simp; exact .nil
  | e :: ds, xs, 0, h => by
    rw [RepYs] at h
    obtain ⟨y, r, rfl, h1, h2⟩ := h
    rw [List.set_cons_zero, List.set_cons_zero]
    exact .cons (by assumption) h2
  | e :: ds, xs, k + 1, h => by
    rw [RepYs] at h
    obtain ⟨y, r, rfl, h1, h2⟩ := h
    rw [List.set_cons_succ, List.set_cons_succ]
    exact .cons h1 (RepYs.set (by assumption) k h2)
theorem RepYs.erase {H : Hp} : ∀ {ds : List DY} {xs : List V} (k : Nat), RepYs H ds xs → RepYs H (ds.eraseIdx k) (xs.eraseIdx k)
  | [], xs, k, h => by rw [RepYs] at h; subst h; simp; exact .nil
  | e :: ds, xs, 0, h => by
    rw [RepYs] at h
    obtain ⟨y, r, rfl, h1, h2⟩ := h
    simpa using h2
  | e :: ds, xs, k + 1, h => by
    rw [RepYs] at h
    obtain ⟨y, r, rfl, h1, h2⟩ := h
    rw [List.eraseIdx_cons_succ, List.eraseIdx_cons_succ]
    exact .cons h1 (RepYs.erase k h2)
theorem RepYs.getD {H : Hp} {ds : List DY} {xs : List V} (h : RepYs H ds xs) {k : Nat} (hk : k < ds.length) : ∃ d x, ds[k]? = some d ∧ xs[k]? = some x ∧ RepY H d x := by
  have hl := h.length
  obtain ⟨d, e, r⟩ := h.get (show xs[k]? = some (xs[k]'(by omega)) by simp)
  exact ⟨d, _, e, by simp, r⟩
end L2
set_option Elab.async false
set_option linter.all false
set_option maxRecDepth 100000
set_option exponentiation.threshold 2000
namespace L2
open PySem PySem.Spec PyProof.Rows
def hs (S : Addr → Bool) (H : Hp) : Hp := fun a => if S a = true then none else H a
theorem hs_some {S : Addr → Bool} {H : Hp} {a : Addr} {o : HO} (h : hs S H a = some o) : S a = false ∧ H a = some o := by
  unfold hs at h
  cases e : S a with
  | true => rw [e] at h; cases h
  | false => rw [e, if_neg (by decide)] at h; exact ⟨rfl, h⟩
theorem hs_at {S : Addr → Bool} {H : Hp} {a : Addr} {o : HO} (h : H a = some o) (n : S a = false) : hs S H a = some o := by
  unfold hs
  rw [n, if_neg (by decide)]
  exact h
theorem hs_le (S : Addr → Bool) (H : Hp) : Same (hs S H) H := fun a o h => (hs_some h).2
theorem hs_sub {S S' : Addr → Bool} {H : Hp} (h : ∀ a, S' a = true → S a = true) : Same (hs S H) (hs S' H) := fun a o q => by
  obtain ⟨h1, h2⟩ := hs_some q
  refine hs_at h2 ?_
  cases e : S' a with
  | false => rfl
  | true => rw [h a e] at h1; cases h1
theorem hs_same {S : Addr → Bool} {H H' : Hp} (s : Same H H') : Same (hs S H) (hs S H') := fun a o q => hs_at (s _ _ (hs_some q).2) (hs_some q).1
theorem hs_sameB {S : Addr → Bool} {H H' : Hp} {b g : Addr} (hb : S b = true) (hg : S g = true) (s : SameB b g H H') : Same (hs S H) (hs S H') := fun a o q => by
  obtain ⟨h1, h2⟩ := hs_some q
  exact hs_at (s a o h2 (fun z => by rw [z, hb] at h1; cases h1) (fun z => by rw [z, hg] at h1; cases h1)) h1
theorem hs_upd {S : Addr → Bool} {H : Hp} {p : Addr} {o : HO} (hp : S p = true) : Same (hs S H) (hs S (upd H p o)) := fun a u q => by
  obtain ⟨h1, h2⟩ := hs_some q
  have : a ≠ p := fun z => by rw [z, hp] at h1; cases h1
  exact hs_at (by rw [upd_ne this]; exact h2) h1
def Trk (S : Addr → Bool) (H : Hp) : Prop := ∀ a, S a = true → H a ≠ none
theorem Trk.same {S : Addr → Bool} {H H' : Hp} (t : Trk S H) (s : Same H H') : Trk S H' := fun a h z => t a h (s.free z)
theorem Trk.back {S : Addr → Bool} {H H' : Hp} (t : Trk S H) (s : ∀ a, H' a = none → H a = none) : Trk S H' := fun a h z => t a h (s a z)
theorem Trk.put {S : Addr → Bool} {H : Hp} {p : Addr} {o : HO} (t : Trk S H) : Trk S (upd H p o) := fun a h z => by
  by_cases e : a = p
  · rw [e, upd_same] at z; cases z
  · rw [upd_ne e] at z; exact t a h z
theorem Trk.new {S : Addr → Bool} {H : Hp} {p : Addr} (t : Trk S H) (hp : H p = none) : S p = false := by
  cases e : S p with
  | false => rfl
  | true => exact absurd hp (t p e)
theorem hs_nw {S : Addr → Bool} {H H' : Hp} (t : Trk S H) : Same (nw H H') (hs S H') := fun a o q => hs_at (nw_some q).2 (t.new (nw_some q).1)
def sBG (b g : Addr) : Addr → Bool := fun a => decide (a = b) || decide (a = g)
theorem sBG_b (b g : Addr) : sBG b g b = true := by unfold sBG; rw [decide_eq_true rfl]; rfl
theorem sBG_g (b g : Addr) : sBG b g g = true := by unfold sBG; rw [decide_eq_true (rfl : g = g), Bool.or_true]
theorem sBG_no {b g a : Addr} (h1 : a ≠ b) (h2 : a ≠ g) : sBG b g a = false := by unfold sBG; rw [decide_eq_false h1, decide_eq_false h2]; rfl
theorem sBG_trk {b g l : Addr} {n : Int} {H : Hp} (B : Bag H b g l n) : Trk (sBG b g) H := fun a h => by
  unfold sBG at h
  rcases Bool.or_eq_true_iff.mp h with h | h
  · rw [of_decide_eq_true h]; exact B.trk.1
  · rw [of_decide_eq_true h]; exact B.trk.2
def sAdd (p : Addr) (S : Addr → Bool) : Addr → Bool := fun a => decide (a = p) || S a
theorem sAdd_p (p : Addr) (S : Addr → Bool) : sAdd p S p = true := by unfold sAdd; rw [decide_eq_true rfl]; rfl
theorem sAdd_s {p a : Addr} {S : Addr → Bool} (h : S a = true) : sAdd p S a = true := by unfold sAdd; rw [h, Bool.or_true]
theorem sAdd_no {p a : Addr} {S : Addr → Bool} (h1 : a ≠ p) (h : S a = false) : sAdd p S a = false := by unfold sAdd; rw [h, decide_eq_false h1]; rfl
theorem hs_add {S : Addr → Bool} {H : Hp} {p : Addr} {o : HO} (hp : H p = none) : Same (hs S H) (hs (sAdd p S) (upd H p o)) := fun a u q => by
  obtain ⟨h1, h2⟩ := hs_some q
  have : a ≠ p := ne_of_none h2 hp
  exact hs_at (by rw [upd_ne this]; exact h2) (sAdd_no this h1)
theorem Trk.add {S : Addr → Bool} {H : Hp} {p : Addr} {o : HO} (t : Trk S H) : Trk (sAdd p S) (upd H p o) := fun a h z => by
  by_cases e : a = p
  · rw [e, upd_same] at z; cases z
  · rw [upd_ne e] at z
    refine t a ?_ z
    unfold sAdd at h
    rw [decide_eq_false e, Bool.false_or] at h
    exact h
theorem hs_drop {S : Addr → Bool} {H : Hp} {p : Addr} : Same (hs (sAdd p S) H) (hs S H) := hs_sub fun a h => sAdd_s h
theorem filter_none {α : Type} (f : α → Bool) (g : α → Str) (l : List α) : ((l.filter fun c => !f c).map g).isEmpty = l.all f := by
  induction l with
  | nil => rfl
  | cons x l ih =>
    rw [List.filter_cons, List.all_cons]
    cases h : f x with
    | true => rw [if_neg (by simp)]; simpa using ih
    | false => rw [if_pos (by simp)]; rfl
theorem atI_in {α : Type} {l : List α} {r : Int} (h0 : 0 ≤ r) (h1 : r < (l.length : Int)) : ∃ c, atI l r = some c := by
  obtain ⟨k, rfl⟩ := Int.eq_ofNat_of_zero_le h0
  have hk : k < l.length := by omega
  exact ⟨l[k], atI_nat (by rw [List.getElem?_eq_getElem hk])⟩
end L2
set_option Elab.async false
set_option linter.all false
set_option maxRecDepth 100000
set_option exponentiation.threshold 2000
namespace L2
open PySem PySem.Spec PyProof.Rows
theorem RepYs.rev {H : Hp} : ∀ {ds : List DY} {xs : List V}, RepYs H ds xs → RepYs H ds.reverse xs.reverse
  | [], xs, h => by rw [RepYs] at h; subst h; exact .nil
  | d :: ds, xs, h => by
    rw [RepYs] at h
    obtain ⟨x, r, rfl, h1, h2⟩ := h
    rw [List.reverse_cons, List.reverse_cons]
    exact (RepYs.rev h2).append (.cons h1 .nil)
def valOf : Stmt → Expr
  | .Assign _ v _ => v
  | _ => .Constant .none 0 ⟨0, 0, 0, 0⟩
def setV : Stmt → Expr → Stmt
  | .Assign t _ p, e => .Assign t e p
  | s, _ => s
def strsOf : List Expr → Option (List Str)
  | [] => some []
  | .Constant (.str x) _ _ :: r => match strsOf r with
    | some vs => some (x :: vs)
    | none => none
  | _ => none
def tStrs (vs : List Str) : TA := fun _ H Q => Q (vs.map V.str) H
theorem pa_strs {X : Cx} : ∀ {es : List Expr} {vs : List Str}, strsOf es = some vs → PA X es (tStrs vs)
  | [], vs, h => by
    cases h
    exact pa_nil
  | e :: es, vs, h => by
    unfold strsOf at h
    split at h
    · rename_i z; cases z
    · rename_i x j pos r e1
      injection e1 with e1 e2
      subst e1 e2
      split at h
      rotate_left
      · cases h
      rename_i ws hw
      injection h with h
      subst h
      have ih := pa_strs (X := X) hw
      have := pa_cons (X := X) (e := .Constant (.str x) j pos) (te := tC (.str x)) pe_str ih (by rfl)
      exact this
    · cases h
theorem pe_strlist {X : Cx} {e : Expr} {es : List Expr} {pos : Pos} {vs : List Str} (he : e = .List es pos) (h : strsOf es = some vs) : PE X e (tLst (tStrs vs)) := by
  subst he
  exact pe_lst (pa_strs h)
def intsOf : List Expr → Option (List Int)
  | [] => some []
  | .Constant (.int x) _ _ :: r => match intsOf r with
    | some vs => some (x :: vs)
    | none => none
  | _ => none
def tInts (vs : List Int) : TA := fun _ H Q => Q (vs.map V.int) H
theorem pa_ints {X : Cx} : ∀ {es : List Expr} {vs : List Int}, intsOf es = some vs → PA X es (tInts vs)
  | [], vs, h => by
    cases h
    exact pa_nil
  | e :: es, vs, h => by
    unfold intsOf at h
    split at h
    · rename_i z; cases z
    · rename_i x j pos r e1
      injection e1 with e1 e2
      subst e1 e2
      split at h
      rotate_left
      · cases h
      rename_i ws hw
      injection h with h
      subst h
      have ih := pa_ints (X := X) hw
      have := pa_cons (X := X) (e := .Constant (.int x) j pos) (te := tC (.int x)) pe_int ih (by rfl)
      exact this
    · cases h
def dictSI : List (Option Expr) → List Expr → Option (List (Str × Int))
  | [], [] => some []
  | some (.Constant (.str x) _ _) :: ks, .Constant (.int i) _ _ :: vs => match dictSI ks vs with
    | some r => some ((x, i) :: r)
    | none => none
  | _, _ => none
theorem pps_si {X : Cx} {pos : Pos} : ∀ {ks : List (Option Expr)} {vs : List Expr} {kvs : List (Str × Int)}, dictSI ks vs = some kvs → PPs X pos ks vs (kvs.map fun p => (tC (.str p.1), tC (.int p.2))) ∧ ks.all (·.isSome) = true ∧ ks.length = vs.length
  | [], [], kvs, h => by
    cases h
    exact ⟨pps_nil, rfl, rfl⟩
  | k :: ks, v :: vs, kvs, h => by
    unfold dictSI at h
    split at h
    · rename_i z _; cases z
    · rename_i x j1 p1 ks' i j2 p2 vs' e1 e2
      injection e1 with e1 e1'
      injection e2 with e2 e2'
      subst e1 e1' e2 e2'
      split at h
      rotate_left
      · cases h
      rename_i ws hw
      injection h with h
      subst h
      obtain ⟨a, b, c⟩ := pps_si (X := X) (pos := pos) hw
      exact ⟨pps_cons pe_str pe_int a, by rw [List.all_cons, b]; rfl, by rw [List.length_cons, List.length_cons, c]⟩
    · cases h
  | [], v :: vs, kvs, h => by cases h
  | k :: ks, [], kvs, h => by
    unfold dictSI at h
    split at h
    · rename_i z _; cases z
    · rename_i z; cases z
    · cases h
theorem pe_dictSI {X : Cx} {e : Expr} {ks : List (Option Expr)} {vs : List Expr} {pos : Pos} {kvs : List (Str × Int)} (he : e = .Dict ks vs pos) (h : dictSI ks vs = some kvs) (h0 : ks ≠ []) (h15 : ks.length ≤ 15) : PE X e (tDisp (kvs.map fun p => (tC (.str p.1), tC (.int p.2)))) := by
  subst he
  obtain ⟨a, b, c⟩ := pps_si (X := X) (pos := pos) h
  exact pe_disp a b c h0 h15
def dictSL : List (Option Expr) → List Expr → Option (List (Str × List Int))
  | [], [] => some []
  | some (.Constant (.str x) _ _) :: ks, .List es _ :: vs => match intsOf es with
    | some is => match dictSL ks vs with
      | some r => some ((x, is) :: r)
      | none => none
    | none => none
  | _, _ => none
theorem pps_sl {X : Cx} {pos : Pos} : ∀ {ks : List (Option Expr)} {vs : List Expr} {kvs : List (Str × List Int)}, dictSL ks vs = some kvs → PPs X pos ks vs (kvs.map fun p => (tC (.str p.1), tLst (tInts p.2))) ∧ ks.all (·.isSome) = true ∧ ks.length = vs.length
  | [], [], kvs, h => by
    cases h
    exact ⟨pps_nil, rfl, rfl⟩
  | k :: ks, v :: vs, kvs, h => by
    unfold dictSL at h
    split at h
    · rename_i z _; cases z
    · rename_i x j1 p1 ks' es p2 vs' e1 e2
      injection e1 with e1 e1'
      injection e2 with e2 e2'
      subst e1 e1' e2 e2'
      split at h
      · rename_i is hi
        split at h
        rotate_left
        · cases h
        rename_i ws hw
        injection h with h
        subst h
        obtain ⟨a, b, c⟩ := pps_sl (X := X) (pos := pos) hw
        exact ⟨pps_cons pe_str (pe_lst (pa_ints hi)) a, by rw [List.all_cons, b]; rfl, by rw [List.length_cons, List.length_cons, c]⟩
      · cases h
    · cases h
  | [], v :: vs, kvs, h => by cases h
  | k :: ks, [], kvs, h => by
    unfold dictSL at h
    split at h
    · rename_i z _; cases z
    · rename_i z; cases z
    · cases h
theorem pe_dictSL {X : Cx} {e : Expr} {ks : List (Option Expr)} {vs : List Expr} {pos : Pos} {kvs : List (Str × List Int)} (he : e = .Dict ks vs pos) (h : dictSL ks vs = some kvs) (h0 : ks ≠ []) (h15 : ks.length ≤ 15) : PE X e (tDisp (kvs.map fun p => (tC (.str p.1), tLst (tInts p.2)))) := by
  subst he
  obtain ⟨a, b, c⟩ := pps_sl (X := X) (pos := pos) h
  exact pe_disp a b c h0 h15
theorem valV_inr (k w : Str) (v : V) (r : List (Key × V)) : valV (((Sum.inr k : Key), v) :: r) (Sum.inr w : Key) = if w = k then some v else valV r (Sum.inr w : Key) := by
  unfold valV
  rw [List.find?_cons]
  by_cases h : w = k
  · rw [if_pos h, h, decide_eq_true rfl]
    rfl
  · rw [if_neg h, decide_eq_false (fun z => h (by injection z with z; exact z.symm))]
theorem mergeK_app : ∀ (more acc : List (Key × V)), ((acc ++ more).map (·.1)).Nodup → mergeK acc more = acc ++ more
  | [], acc, _ => by show acc = acc ++ []; rw [List.append_nil]
  | p :: r, acc, h => by
    have hp : (acc.any fun kv => decide (kv.1 = p.1)) = false := by
      rw [List.any_eq_false]
      intro kv hkv z
      have z := of_decide_eq_true z
      rw [List.map_append, List.map_cons] at h
      have := (List.nodup_append.mp h).2.2 kv.1 (List.mem_map.mpr ⟨kv, hkv, rfl⟩) p.1 (List.mem_cons_self ..)
      exact this z
    have e : putK acc p.1 p.2 = acc ++ [p] := by
      unfold putK
      rw [hp, if_neg (by decide)]
    show mergeK (putK acc p.1 p.2) r = _
    rw [e, mergeK_app r (acc ++ [p]) (by rw [List.append_assoc]; exact h), List.append_assoc]
    rfl
inductive Ents : List DictEntry → List (Str × V) → Prop where
  | nil : Ents [] []
  | cons {e : DictEntry} {k : Str} {t : Tok} {v : V} {r : List DictEntry} {rs : List (Str × V)} (hk : e.key = .str k t) (hv : RelV v e.val) (h : Ents r rs) : Ents (e :: r) ((k, v) :: rs)
def look : List (Str × V) → Str → Option V
  | [], _ => none
  | (k, v) :: r, x => if x = k then some v else look r x
def TopD (K : PySem.W.Frag) (w : World) (a : Addr) (kvs : List (Str × V)) : Prop :=
  (a == sysModules) = false ∧ ∃ (es : Array DictEntry) (n : Nat), K.lookup a = some ⟨.type "dict", none, .dict es n, #[]⟩ ∧ PySem.W.KeysLit w.params es.toList ∧ Ents es.toList kvs
theorem ents_look {l : List DictEntry} {kvs : List (Str × V)} (h : Ents l kvs) (x : Str) : match look kvs x with
    | none => (l.find? fun d => Value.isStrOf x d.key) = none
    | some v => ∃ e, (l.find? fun d => Value.isStrOf x d.key) = some e ∧ RelV v e.val := by
  induction h with
  | nil => rfl
  | @cons e k t v r rs hk hv h ih =>
    have ek : Value.isStrOf x e.key = decide (x = k) := by
      rw [hk]
      show (k == x) = decide (x = k)
      by_cases z : x = k
      · rw [decide_eq_true z, z]
        exact beq_self_eq_true k
      · rw [decide_eq_false z]
        exact beq_eq_false_iff_ne.mpr fun e => z e.symm
    unfold look
    by_cases z : x = k
    · rw [if_pos z]
      exact ⟨e, by rw [List.find?_cons, ek, decide_eq_true z], hv⟩
    · rw [if_neg z, List.find?_cons, ek, decide_eq_false z]
      exact ih
section
variable {X : Cx}
theorem topd_find {pins : List (Addr × Obj)} {σ : St} {H : Hp} {s : Shared} {a : Addr} {kvs : List (Str × V)} (I : Inv X pins σ H s) (T : TopD X.K X.w a kvs) :
    (a == sysModules) = false ∧ ∃ f : Str → Option Value, s.heap.MapOf (strKind X.prog X.w) a f ∧ ∀ x, match look kvs x with | none => f x = none | some v => ∃ u, f x = some u ∧ RelV v u := by
  obtain ⟨h0, es, n, hl, hk, he⟩ := T
  refine ⟨h0, _, PySem.W.mapOf_K I.kIn hl hk, fun x => ?_⟩
  have := ents_look he x
  obtain ⟨l⟩ := es
  unfold findBy
  rw [List.find?_toArray]
  dsimp only at this ⊢
  cases e : look kvs x with
  | none => rw [e] at this; dsimp only at this ⊢; rw [this]; rfl
  | some v =>
    rw [e] at this
    obtain ⟨d, e1, e2⟩ := this
    exact ⟨d.val, by rw [e1]; rfl, e2⟩
theorem op_notInTop : OpR X (compareOp .NotIn) (fun x y H Q => ∃ k a kvs, x = .str k ∧ y = .ref a ∧ TopD X.K X.w a kvs ∧ Q (.bl (!(look kvs k).isSome)) H) := by
  intro pins s σ H x y v u Q I rx ry h
  obtain ⟨k, a, kvs, rfl, rfl, T, q⟩ := h
  obtain ⟨t, rfl⟩ := (show ∃ t, v = Value.str k t from rx)
  cases (show u = Value.ref a from ry)
  obtain ⟨h0, f, hm, hf⟩ := topd_find I T
  refine wpAny_notIn_of (strKind_is X.prog X.w k t) h0 hm ?_
  have := hf k
  have e : (f k).isSome = (look kvs k).isSome := by
    cases e : look kvs k with
    | none => rw [e] at this; dsimp only at this; rw [this]; rfl
    | some v => rw [e] at this; obtain ⟨u, e1, _⟩ := this; rw [e1]; rfl
  rw [e]
  exact ⟨.bl _, H, I.tok _, rfl, q⟩
theorem ix_top : IxR X (fun x y H Q => ∃ a k kvs v, x = .ref a ∧ y = .str k ∧ TopD X.K X.w a kvs ∧ look kvs k = some v ∧ Q v H) := by
  intro value slice pins s σ H x y v u Q I rx ry h hs
  obtain ⟨a, k, kvs, z, rfl, rfl, T, e, q⟩ := h
  cases (show v = Value.ref a from rx)
  obtain ⟨t, rfl⟩ := (show ∃ t, u = Value.str k t from ry)
  obtain ⟨h0, f, hm, hf⟩ := topd_find I T
  have := hf k
  rw [e] at this
  obtain ⟨u, e1, r1⟩ := this
  exact tail_any hm.typeIs PySem.F.slot_dict_getitem.lookup (wpAny_getItem_of (strKind_is X.prog X.w k t) hm e1 ⟨z, H, I.tok _, r1, q⟩) hs
def rEqU : R2 := fun x y H Q => ∃ a b xs, x = .ref a ∧ y = .ref b ∧ H a = some (.tup xs) ∧ H b = some (.tup []) ∧ Q (.bl xs.isEmpty) H
theorem op_eqU (hr : RoomD X) : OpR X (compareOp .Eq) rEqU := by
  intro pins s σ H x y v u Q I rx ry h
  obtain ⟨a, b, xs, rfl, rfl, ha, hb, q⟩ := h
  cases (show v = Value.ref a from rx)
  cases (show u = Value.ref b from ry)
  unfold RoomD at hr
  obtain ⟨_, its, rv, o, hg, hc, _, n, hd⟩ := (show ObjOk X.prog X.w H s.heap a (.tup xs) from I.hok a _ ha)
  obtain ⟨_, its', rv', o', hg', hc', _, n', hd'⟩ := (show ObjOk X.prog X.w H s.heap b (.tup []) from I.hok b _ hb)
  cases rv'
  have l := rv.length
  have := SeqAt.RcAt.tuples (l := a) (b := b) (A := X.A) (e := fun _ => true) (s := s) (items := its.toArray) (items2 := ([] : List Value).toArray) ⟨_, hg, hc, _, hd⟩ ⟨_, hg', hc', _, hd'⟩ (by omega) (fun j h1 h2 => absurd h2 (by simp))
  refine this X.prog X.w _ _ ?_
  have e : ((List.range (min its.toArray.size ([] : List Value).toArray.size)).all (fun _ => true) && its.toArray.size == ([] : List Value).toArray.size) = xs.isEmpty := by
    cases xs with
    | nil =>
      cases rv
      rfl
    | cons x xs =>
      cases rv with
      | cons r1 r2 => simp
  rw [e]
  exact ⟨.bl _, H, I, rfl, q⟩
end
end L2
set_option maxHeartbeats 4000000
namespace K68
open PySem PySem.Spec PyProof.Rows L2
def top (i : Nat) : Stmt := PySem.Challenge.pw_newsways_k68_what_is_a_deed.main.body.getD i (.Pass ⟨0, 0, 0, 0⟩)
abbrev s_is_whole : Stmt := top 1
abbrev s_is_end : Stmt := top 2
abbrev s_is_span : Stmt := top 3
abbrev s_is_field : Stmt := top 6
abbrev s_is_wish_part : Stmt := top 7
abbrev s_is_piece_part : Stmt := top 8
abbrev s_fields_ascend : Stmt := top 9
abbrev s_is_wish : Stmt := top 10
abbrev s_is_piece : Stmt := top 11
abbrev s_is_name : Stmt := top 13
abbrev s_is_from_nought : Stmt := top 14
abbrev s_is_part : Stmt := top 18
abbrev s_is_deed : Stmt := top 17
abbrev s_law_bag : Stmt := top 20
abbrev s_law_draw : Stmt := top 21
abbrev s_law_number : Stmt := top 22
abbrev s_law_span : Stmt := top 23
abbrev s_law_whole : Stmt := top 24
abbrev s_law_field : Stmt := top 25
abbrev s_law_fields : Stmt := top 26
abbrev s_law_plain : Stmt := top 27
abbrev s_law_is_field : Stmt := top 28
abbrev s_law_is_span : Stmt := top 29
abbrev s_law_is_made : Stmt := top 30
abbrev s_law_copied : Stmt := top 31
abbrev s_law_made : Stmt := top 32
abbrev s_law_post : Stmt := top 33
abbrev s_law_good : Stmt := top 34
abbrev s_law_odd : Stmt := top 35
abbrev s_law_spoilt : Stmt := top 36
abbrev s_law_is_deed : Stmt := top 37
abbrev s_law : Stmt := top 38
abbrev T40 : Int := 10000000000000000000000000000000000000000
theorem e40 : (10 : Int) ^ (40 : Int).toNat = T40 := by decide
theorem e15' : (10 : Int) ^ (15 : Int).toNat = 1000000000000000 := by decide
def spNum1 : Sp := fun vs H Q _ => ∃ (b g l : Addr) (n : Int), vs = [.ref b] ∧ Bag H b g l n ∧ n ≤ 10 ^ 9 ∧ ∀ (r : Int) (H' : Hp), -T40 < r → r < T40 → Bag H' b g l (n + 3) → SameB b g H H' → Q (.int r) H'
def inU (o : Option Int) : Prop := ∀ i, o = some i → i.natAbs < 10 ^ 60
def spSpan1 : Sp := fun vs H Q _ => ∃ (b g l : Addr) (n : Int), vs = [.ref b] ∧ Bag H b g l n ∧ n ≤ 10 ^ 8 ∧ ∀ (a : Addr) (lo hi : Option Int) (H' : Hp), H a = none → H' a = some (.tup [eV lo, eV hi]) → inU lo → inU hi → Bag H' b g l (n + 8) → SameB b g H H' → Q (.ref a) H'
def cPl (m : Nat) : Int := 5 * 4 ^ m
theorem cPl_pos (m : Nat) : 5 ≤ cPl m := by
  unfold cPl
  have : (0 : Int) < 4 ^ m := Int.pow_pos (by decide)
  omega
theorem cPl_succ (m : Nat) : cPl (m + 1) = 4 * cPl m := by unfold cPl; rw [Int.pow_succ]; omega
def spPlN (m : Nat) : Sp := fun vs H Q _ => ∃ (b g l : Addr) (n : Int), vs = [.ref b, .int (m : Int)] ∧ Bag H b g l n ∧ n + cPl m ≤ 10 ^ 8 ∧ ∀ (v : V) (d : DY) (H' : Hp), RepY (nw H H') d v → depthY d ≤ 2 * m → szY d ≤ 3 → Bag H' b g l (n + cPl m) → SameB b g H H' → Q v H'
def spCopN (m : Nat) : Sp := fun vs H Q _ => ∃ (v : V) (d : DY), vs = [v] ∧ RepY H d v ∧ depthY d ≤ m ∧ ∀ (v' : V) (H' : Hp), RepY (nw H H') d v' → Same H H' → Q v' H'
def spSameN (m : Nat) : Sp := fun vs H Q _ => ∃ (v v' : V) (d : DY), vs = [v, v'] ∧ m ≤ 9 ∧ RepY H d v ∧ RepY H d v' ∧ depthY d ≤ m ∧ ∀ H', Same H H' → Q (.bl true) H'
def spLF20 : Sp := fun vs H Q _ => ∃ (b g l : Addr) (n most : Int), vs = [.ref b, .int most] ∧ Bag H b g l n ∧ n ≤ 10 ^ 7 ∧ 0 ≤ most ∧ most ≤ 20 ∧
  ∀ (r : Addr) (fs : List Str) (H' : Hp), H r = none → H' r = some (.lst (fs.map V.str)) → fs.Pairwise ltF → (∀ f ∈ fs, FieldOk f) → (fs.length : Int) ≤ most → Bag H' b g l (n + 300) → SameB b g H H' → Q (.ref r) H'
def spIsSp2 : Sp := fun vs H Q _ => ∃ (v1 v2 : V) (d1 d2 : DY), vs = [v1, v2] ∧ RepY H d1 v1 ∧ RepY H d2 v2 ∧ ∀ H', Same H H' → Q (.bl (endY d1 && endY d2 && leY d1 d2)) H'
def partY (k : Int) (d : DY) : Bool := if k = 3 then wpartY d else ppartY d
def madeY (k : Int) : DY → Bool
  | .tup ds => ds.all (partY k) && ascY ds
  | _ => false
theorem made3 (d : DY) : madeY 3 d = wishY d := by cases d <;> rfl
theorem made2 (d : DY) : madeY 2 d = pieceY d := by cases d <;> rfl
def spMade : Sp := fun vs H Q _ => ∃ (v : V) (d : DY) (k : Int), vs = [v, .int k] ∧ (k = 2 ∨ k = 3) ∧ RepY H d v ∧ ∀ H', Same H H' → Q (.bl (madeY k d)) H'
def PartOk (m : Nat) (d : DY) : Prop := depthY d ≤ 4 ∧ szY d ≤ m
def spGood4 : Sp := fun vs H Q _ => ∃ (b g l : Addr) (n : Int), vs = [.ref b] ∧ Bag H b g l n ∧ n ≤ 10 ^ 6 ∧ ∀ (v : V) (ds : List DY) (H' : Hp), RepY (hs (sBG b g) H') (.tup ds) v → ds.length ≤ 20 → (∀ d ∈ ds, PartOk 20 d) → Bag H' b g l (n + 700) → SameB b g H H' → Q v H'
def spOdd4 : Sp := fun vs H Q _ => ∃ (b g l : Addr) (n : Int) (x : Str), vs = [.ref b, .str x] ∧ Bag H b g l n ∧ n ≤ 10 ^ 7 ∧ x.length ≤ 400 ∧ ∀ (v : V) (d : DY) (H' : Hp), RepY (nw H H') d v → depthY d ≤ 2 → szY d ≤ 2 * x.length + 20 → Bag H' b g l (n + 30) → SameB b g H H' → Q v H'
theorem part_wish {f : Str} {lo hi : Option Int} (h : f.length ≤ 8) : PartOk 20 (.tup [.str f, eD lo, eD hi]) := by
  refine ⟨?_, ?_⟩
  · rw [depthY, depthYs, depthYs, depthYs, depthYs, depth_eD, depth_eD]
    show max 0 _ + 1 ≤ 4
    decide
  · have z : ∀ o : Option Int, szY (eD o) = 0 := fun o => by cases o <;> rfl
    rw [szY, szYs, szYs, szYs, szYs, szY, z, z]
    show max 3 _ ≤ 20
    omega
theorem part_piece {f : Str} {n : Int} (h : f.length ≤ 8) : PartOk 20 (.tup [.str f, .int n]) := by
  refine ⟨?_, ?_⟩
  · rw [depthY, depthYs, depthYs, depthYs]
    show max 0 (max 0 0) + 1 ≤ 4
    decide
  · rw [szY, szYs, szYs, szYs, szY]
    show max 2 (max f.length (max 0 0)) ≤ 20
    omega
def spSpp : Sp := fun vs H Q _ => ∃ (b g l : Addr) (n : Int) (S : Addr → Bool) (v : V) (es : List DY) (m : Nat), vs = [.ref b, v] ∧ Bag H b g l n ∧ n ≤ 5000000 ∧ S b = true ∧ S g = true ∧ Trk S H ∧ RepY (hs S H) (.tup es) v ∧ PartOk m (.tup es) ∧ m ≤ 140 ∧ ∀ (v' : V) (d' : DY) (H' : Hp), RepY (hs S H') d' v' → PartOk (2 * m + 20) d' → Bag H' b g l (n + 60) → SameB b g H H' → Q v' H'
def spSpo : Sp := fun vs H Q _ => ∃ (b g l : Addr) (n : Int) (v : V) (ds : List DY) (m : Nat), vs = [.ref b, v] ∧ Bag H b g l n ∧ n ≤ 10 ^ 6 ∧ RepY (hs (sBG b g) H) (.tup ds) v ∧ ds.length ≤ m ∧ (∀ d ∈ ds, PartOk m d) ∧ m ≤ 140 ∧ ∀ (v' : V) (ds' : List DY) (H' : Hp), RepY (hs (sBG b g) H') (.tup ds') v' → ds'.length ≤ 2 * m + 20 → (∀ d ∈ ds', PartOk (2 * m + 20) d) → Bag H' b g l (n + 100) → SameB b g H H' → Q v' H'
theorem mem_cut {α : Type} {l : List α} {x : α} {i j : Nat} (h : x ∈ l.take i ++ l.drop j) : x ∈ l := by
  rcases List.mem_append.mp h with h | h
  · exact List.mem_of_mem_take h
  · exact List.mem_of_mem_drop h
theorem len_cut {α : Type} (l : List α) (i : Nat) : (l.take i ++ l.drop (i + 1)).length ≤ l.length := by
  rw [List.length_append, List.length_take, List.length_drop]; omega
theorem isStr_k (K : PySem.W.Frag) (d : DY) : PySem.W.kitOne K (.type (tyY d)) (.type "str") = some (isStr d) := by cases d <;> rfl
theorem isTup_k (K : PySem.W.Frag) (d : DY) : PySem.W.kitOne K (.type (tyY d)) (.type "tuple") = some (isTup d) := by cases d <;> rfl
theorem isStr_form {d : DY} (h : isStr d = true) : ∃ x, d = .str x := by
  cases d with
  | str x => exact ⟨x, rfl⟩
  | _ => cases h
theorem isTup_form {d : DY} (h : isTup d = true) : ∃ x, d = .tup x := by
  cases d with
  | tup x => exact ⟨x, rfl⟩
  | _ => cases h
def spThing4 : Sp := fun vs H Q _ => ∃ (b g l : Addr) (n : Int), vs = [.ref b] ∧ Bag H b g l n ∧ n ≤ 10 ^ 5 ∧ ∀ (v : V) (d : DY) (H' : Hp), RepY (hs (sBG b g) H') d v → depthY d ≤ 6 → Bag H' b g l (n + 1200) → SameB b g H H' → Q v H'
def spRight4 : Sp := fun vs H Q _ => ∃ (v : V) (d : DY) (t : Int), vs = [v, .int t] ∧ (t = 0 ∨ t = 1) ∧ RepY H d v ∧ ∀ H', Same H H' → Q (.bl true) H'
def mS : Nat → Nat
  | 0 => 20
  | i + 1 => 2 * mS i + 20
def natY : DY → Bool
  | .int i => decide (0 ≤ i)
  | _ => false
def kindY (k : Str) (d : DY) : Bool := if k = "hand" then fieldY d else if k = "post" then natY d else if k = "wish" then wishY d else pieceY d
def kindsOf (w : Str) : Option (List Str) := if w = "come" then some ["hand", "post"] else if w = "go" then some ["hand"] else if w = "want" then some ["hand", "wish"] else if w = "unwant" then some ["hand", "wish"] else if w = "tell" then some ["post", "piece"] else if w = "move" then some ["hand", "post"] else if w = "grow" then some ["post"] else if w = "step" then some ["post", "post"] else none
def deedR (ks : List Str) (r : List DY) : Bool := decide (r.length = ks.length) && ((List.range ks.length).map fun i => kindY (ks.getD i "") (r.getD i .non)).all id
def deedY : DY → Bool
  | .tup (.str w :: r) => match kindsOf w with
    | none => false
    | some ks => deedR ks r
  | _ => false
def TupK (K : PySem.W.Frag) (t : Addr) (ks : List Str) : Prop := ∃ (o : Obj) (its : Array Value) (n : Nat), K.lookup t = some o ∧ o.cls = .type "tuple" ∧ o.data = .seq its n ∧ its.size ≤ sizeLine ∧ Vals (ks.map V.str) its.toList
def deedKV (t1 t2 t3 t4 t5 t6 t7 t8 : Addr) : List (Str × V) := [("come", .ref t1), ("go", .ref t2), ("want", .ref t3), ("unwant", .ref t4), ("tell", .ref t5), ("move", .ref t6), ("grow", .ref t7), ("step", .ref t8)]
structure Deeds (K : PySem.W.Frag) (w : World) (mg : Str → Option Value) (aD t1 t2 t3 t4 t5 t6 t7 t8 : Addr) : Prop where
  m : mg "DEED_PARTS" = some (.ref aD)
  d : TopD K w aD (deedKV t1 t2 t3 t4 t5 t6 t7 t8)
  k1 : TupK K t1 ["hand", "post"]
  k2 : TupK K t2 ["hand"]
  k3 : TupK K t3 ["hand", "wish"]
  k4 : TupK K t4 ["hand", "wish"]
  k5 : TupK K t5 ["post", "piece"]
  k6 : TupK K t6 ["hand", "post"]
  k7 : TupK K t7 ["post"]
  k8 : TupK K t8 ["post", "post"]
theorem Deeds.look {K : PySem.W.Frag} {w : World} {mg : Str → Option Value} {aD t1 t2 t3 t4 t5 t6 t7 t8 : Addr} (D : Deeds K w mg aD t1 t2 t3 t4 t5 t6 t7 t8) (x : Str) : match kindsOf x with
    | none => L2.look (deedKV t1 t2 t3 t4 t5 t6 t7 t8) x = none
    | some ks => ∃ t, L2.look (deedKV t1 t2 t3 t4 t5 t6 t7 t8) x = some (.ref t) ∧ TupK K t ks := by
  unfold kindsOf deedKV
  by_cases h0 : x = "come"
  · simp only [L2.look, if_pos h0]
    exact ⟨_, rfl, D.k1⟩
  by_cases h1 : x = "go"
  · simp only [L2.look, if_neg h0, if_pos h1]
    exact ⟨_, rfl, D.k2⟩
  by_cases h2 : x = "want"
  · simp only [L2.look, if_neg h0, if_neg h1, if_pos h2]
    exact ⟨_, rfl, D.k3⟩
  by_cases h3 : x = "unwant"
  · simp only [L2.look, if_neg h0, if_neg h1, if_neg h2, if_pos h3]
    exact ⟨_, rfl, D.k4⟩
  by_cases h4 : x = "tell"
  · simp only [L2.look, if_neg h0, if_neg h1, if_neg h2, if_neg h3, if_pos h4]
    exact ⟨_, rfl, D.k5⟩
  by_cases h5 : x = "move"
  · simp only [L2.look, if_neg h0, if_neg h1, if_neg h2, if_neg h3, if_neg h4, if_pos h5]
    exact ⟨_, rfl, D.k6⟩
  by_cases h6 : x = "grow"
  · simp only [L2.look, if_neg h0, if_neg h1, if_neg h2, if_neg h3, if_neg h4, if_neg h5, if_pos h6]
    exact ⟨_, rfl, D.k7⟩
  by_cases h7 : x = "step"
  · simp only [L2.look, if_neg h0, if_neg h1, if_neg h2, if_neg h3, if_neg h4, if_neg h5, if_neg h6, if_pos h7]
    exact ⟨_, rfl, D.k8⟩
  simp only [L2.look, if_neg h0, if_neg h1, if_neg h2, if_neg h3, if_neg h4, if_neg h5, if_neg h6, if_neg h7]
theorem kinds_len {w : Str} {ks : List Str} (h : kindsOf w = some ks) : ks.length ≤ 2 := by
  unfold kindsOf at h
  by_cases h0 : w = "come"
  · rw [if_pos h0] at h
    cases h
    decide
  rw [if_neg h0] at h
  by_cases h1 : w = "go"
  · rw [if_pos h1] at h
    cases h
    decide
  rw [if_neg h1] at h
  by_cases h2 : w = "want"
  · rw [if_pos h2] at h
    cases h
    decide
  rw [if_neg h2] at h
  by_cases h3 : w = "unwant"
  · rw [if_pos h3] at h
    cases h
    decide
  rw [if_neg h3] at h
  by_cases h4 : w = "tell"
  · rw [if_pos h4] at h
    cases h
    decide
  rw [if_neg h4] at h
  by_cases h5 : w = "move"
  · rw [if_pos h5] at h
    cases h
    decide
  rw [if_neg h5] at h
  by_cases h6 : w = "grow"
  · rw [if_pos h6] at h
    cases h
    decide
  rw [if_neg h6] at h
  by_cases h7 : w = "step"
  · rw [if_pos h7] at h
    cases h
    decide
  rw [if_neg h7] at h
  cases h
theorem deed_nil {d : DY} {r : List DY} (h : isStr d = false) : deedY (.tup (d :: r)) = false := by
  cases d with
  | str x => cases h
  | _ => rfl
def spPartK : Sp := fun vs H Q _ => ∃ (k : Str) (v : V) (d : DY), vs = [.str k, v] ∧ RepY H d v ∧ ∀ H', Same H H' → Q (.bl (kindY k d)) H'
def spMade8 : Sp := fun vs H Q _ => ∃ (b g l : Addr) (n k : Int), vs = [.ref b, .int k] ∧ (k = 2 ∨ k = 3) ∧ Bag H b g l n ∧ n ≤ 10 ^ 6 ∧ ∀ (v : V) (ds : List DY) (H' : Hp), RepY (nw H H') (.tup ds) v → depthY (.tup ds) ≤ 2 → szY (.tup ds) ≤ 20 → Bag H' b g l (n + 700) → SameB b g H H' → Q v H'
def spPost8 : Sp := fun vs H Q _ => ∃ (b g l : Addr) (n : Int), vs = [.ref b] ∧ Bag H b g l n ∧ n ≤ 10 ^ 7 ∧ ∀ (r : Int) (H' : Hp), Bag H' b g l (n + 2) → SameB b g H H' → Q (.int r) H'
def spGood8 : Sp := fun vs H Q _ => ∃ (b g l : Addr) (n : Int), vs = [.ref b] ∧ Bag H b g l n ∧ n ≤ 10 ^ 5 ∧ ∀ (v : V) (ds : List DY) (H' : Hp), RepY (hs (sBG b g) H') (.tup ds) v → depthY (.tup ds) ≤ 3 → szY (.tup ds) ≤ 20 → Bag H' b g l (n + 800) → SameB b g H H' → Q v H'
def spOdd8 : Sp := fun vs H Q _ => ∃ (b g l : Addr) (n : Int) (v : V) (d : DY), vs = [.ref b, v] ∧ Bag H b g l n ∧ n ≤ 10 ^ 6 ∧ RepY (hs (sBG b g) H) d v ∧ szY d ≤ 400 ∧ ∀ (v' : V) (d' : DY) (H' : Hp), RepY (nw H H') d' v' → depthY d' ≤ 4 → szY d' ≤ 2 * szY d + 20 → Bag H' b g l (n + 90) → SameB b g H H' → Q v' H'
theorem part_w2 {f : Str} {lo hi : Option Int} (h : f.length ≤ 8) : depthY (.tup [.str f, eD lo, eD hi]) ≤ 1 ∧ szY (.tup [.str f, eD lo, eD hi]) ≤ 20 := by
  refine ⟨?_, (part_wish h).2⟩
  rw [depthY, depthYs, depthYs, depthYs, depthYs, depth_eD, depth_eD]
  show max 0 _ + 1 ≤ 1
  decide
theorem part_p2 {f : Str} {n : Int} (h : f.length ≤ 8) : depthY (.tup [.str f, .int n]) ≤ 1 ∧ szY (.tup [.str f, .int n]) ≤ 20 := by
  refine ⟨?_, (part_piece h).2⟩
  rw [depthY, depthYs, depthYs, depthYs]
  show max 0 (max 0 0) + 1 ≤ 1
  decide
def words8 : List Str := ["come", "go", "want", "unwant", "tell", "move", "grow", "step"]
theorem words8_len : ∀ x ∈ words8, x.length ≤ 8 := by decide +kernel
def words12 : List Str := ["come", "go", "want", "unwant", "tell", "move", "grow", "step", "want ", "Go", "news", "rest"]
theorem words12_len : ∀ x ∈ words12, x.length ≤ 8 := by decide +kernel
theorem at_strs {l : List Str} {r : Int} (h0 : 0 ≤ r) (h1 : r < (l.length : Int)) : ∃ x, atI (l.map V.str) r = some (.str x) ∧ x ∈ l := by
  obtain ⟨k, rfl⟩ := Int.eq_ofNat_of_zero_le h0
  have hk : k < l.length := by omega
  exact ⟨l[k], atI_nat (by rw [List.getElem?_map, List.getElem?_eq_getElem hk]; rfl), List.getElem_mem _⟩
theorem str_pos {x : Str} (h : x ≠ "") : 0 < x.length := by
  rcases Nat.eq_zero_or_pos x.length with z | z
  · refine absurd ?_ h
    obtain ⟨c⟩ := x
    have : c = #[] := Array.size_eq_zero_iff.mp z
    rw [this]
    decide +kernel
  · exact z
def spSpo8 (k : Nat) : Sp := fun vs H Q _ => ∃ (b g l : Addr) (nn : Int) (S : Addr → Bool) (v : V) (ds : List DY) (m : Nat), vs = [.ref b, v] ∧ Bag H b g l nn ∧ nn + 100 * (k : Int) ≤ 900000 ∧ S b = true ∧ S g = true ∧ Trk S H ∧ RepY (hs S H) (.tup ds) v ∧ depthY (.tup ds) ≤ k ∧ szY (.tup ds) ≤ m ∧ 1 ≤ m ∧ m ≤ 140 ∧ ∀ (v' : V) (d' : DY) (H' : Hp), RepY (hs S H') d' v' → depthY d' ≤ k + 4 → szY d' ≤ 2 * m + 20 → Bag H' b g l (nn + 100 * ((k : Int) + 1)) → SameB b g H H' → Q v' H'
def sizesKV : List (Key × V) := [(.inr "come", .int 3), (.inr "go", .int 2), (.inr "want", .int 3), (.inr "unwant", .int 3), (.inr "tell", .int 3), (.inr "move", .int 3), (.inr "grow", .int 2), (.inr "step", .int 3)]
theorem sizes_look (w : Str) : valV sizesKV (.inr w : Key) = (kindsOf w).map fun ks => V.int (1 + (ks.length : Int)) := by
  unfold sizesKV kindsOf
  by_cases h0 : w = "come"
  · simp only [valV_inr, if_pos h0]
    rfl
  by_cases h1 : w = "go"
  · simp only [valV_inr, if_neg h0, if_pos h1]
    rfl
  by_cases h2 : w = "want"
  · simp only [valV_inr, if_neg h0, if_neg h1, if_pos h2]
    rfl
  by_cases h3 : w = "unwant"
  · simp only [valV_inr, if_neg h0, if_neg h1, if_neg h2, if_pos h3]
    rfl
  by_cases h4 : w = "tell"
  · simp only [valV_inr, if_neg h0, if_neg h1, if_neg h2, if_neg h3, if_pos h4]
    rfl
  by_cases h5 : w = "move"
  · simp only [valV_inr, if_neg h0, if_neg h1, if_neg h2, if_neg h3, if_neg h4, if_pos h5]
    rfl
  by_cases h6 : w = "grow"
  · simp only [valV_inr, if_neg h0, if_neg h1, if_neg h2, if_neg h3, if_neg h4, if_neg h5, if_pos h6]
    rfl
  by_cases h7 : w = "step"
  · simp only [valV_inr, if_neg h0, if_neg h1, if_neg h2, if_neg h3, if_neg h4, if_neg h5, if_neg h6, if_pos h7]
    rfl
  simp only [valV_inr, if_neg h0, if_neg h1, if_neg h2, if_neg h3, if_neg h4, if_neg h5, if_neg h6, if_neg h7]
  rfl
def numsKV (l1 l2 l3 l4 l5 : Addr) : List (Key × V) := [(.inr "come", .ref l1), (.inr "move", .ref l2), (.inr "tell", .ref l3), (.inr "grow", .ref l4), (.inr "step", .ref l5)]
theorem nums_look (l1 l2 l3 l4 l5 : Addr) (w : Str) : valV (numsKV l1 l2 l3 l4 l5) (.inr w : Key) = if w = "come" then some (.ref l1) else if w = "move" then some (.ref l2) else if w = "tell" then some (.ref l3) else if w = "grow" then some (.ref l4) else if w = "step" then some (.ref l5) else none := by
  unfold numsKV
  simp only [valV_inr]
  rfl
def numsAt (w : Str) : List Int := if w = "come" then [2] else if w = "move" then [2] else if w = "tell" then [1] else if w = "grow" then [1] else if w = "step" then [1, 2] else []
def handB (w : Str) : Bool := inV (.str w) [V.str "come", V.str "go", V.str "want", V.str "unwant", V.str "move"]
def wishB (w : Str) : Bool := inV (.str w) [V.str "want", V.str "unwant"]
def deedL (w : Str) (r : List DY) : Bool := ((numsAt w).all fun k => natY (r.getD (k.toNat - 1) .non)) && (!handB w || fieldY (r.getD 0 .non)) && (if wishB w then wishY (r.getD 1 .non) else (decide (w ≠ "tell") || pieceY (r.getD 1 .non)))
theorem kindY_hand (d : DY) : kindY "hand" d = fieldY d := by unfold kindY; rw [if_pos rfl]
theorem kindY_post (d : DY) : kindY "post" d = natY d := by unfold kindY; rw [if_neg (by decide +kernel), if_pos rfl]
theorem kindY_wish (d : DY) : kindY "wish" d = wishY d := by unfold kindY; rw [if_neg (by decide +kernel), if_neg (by decide +kernel), if_pos rfl]
theorem kindY_piece (d : DY) : kindY "piece" d = pieceY d := by unfold kindY; rw [if_neg (by decide +kernel), if_neg (by decide +kernel), if_neg (by decide +kernel)]
theorem deed_come (r : List DY) (ks : List Str) (hk : kindsOf "come" = some ks) (hl : r.length = ks.length) : deedR ks r = deedL "come" r := by
  have ek : kindsOf "come" = some (["hand", "post"] : List Str) := by decide +kernel
  rw [ek] at hk
  injection hk with hk
  subst hk
  have e1 : numsAt "come" = [2] := by decide +kernel
  have e2 : handB "come" = true := by decide +kernel
  have e3 : wishB "come" = false := by decide +kernel
  have e4 : decide (("come" : Str) ≠ "tell") = true := by decide +kernel
  match r, hl with
  | [a, b], _ =>
    unfold deedL deedR
    rw [e1, e2, e3, e4]
    simp [List.range_succ, kindY_hand, kindY_post, kindY_wish, kindY_piece] <;> exact Bool.and_comm _ _
theorem deed_go (r : List DY) (ks : List Str) (hk : kindsOf "go" = some ks) (hl : r.length = ks.length) : deedR ks r = deedL "go" r := by
  have ek : kindsOf "go" = some (["hand"] : List Str) := by decide +kernel
  rw [ek] at hk
  injection hk with hk
  subst hk
  have e1 : numsAt "go" = [] := by decide +kernel
  have e2 : handB "go" = true := by decide +kernel
  have e3 : wishB "go" = false := by decide +kernel
  have e4 : decide (("go" : Str) ≠ "tell") = true := by decide +kernel
  match r, hl with
  | [a], _ =>
    unfold deedL deedR
    rw [e1, e2, e3, e4]
    simp [List.range_succ, kindY_hand, kindY_post, kindY_wish, kindY_piece] <;> exact Bool.and_comm _ _
theorem deed_want (r : List DY) (ks : List Str) (hk : kindsOf "want" = some ks) (hl : r.length = ks.length) : deedR ks r = deedL "want" r := by
  have ek : kindsOf "want" = some (["hand", "wish"] : List Str) := by decide +kernel
  rw [ek] at hk
  injection hk with hk
  subst hk
  have e1 : numsAt "want" = [] := by decide +kernel
  have e2 : handB "want" = true := by decide +kernel
  have e3 : wishB "want" = true := by decide +kernel
  have e4 : decide (("want" : Str) ≠ "tell") = true := by decide +kernel
  match r, hl with
  | [a, b], _ =>
    unfold deedL deedR
    rw [e1, e2, e3, e4]
    simp [List.range_succ, kindY_hand, kindY_post, kindY_wish, kindY_piece] <;> exact Bool.and_comm _ _
theorem deed_unwant (r : List DY) (ks : List Str) (hk : kindsOf "unwant" = some ks) (hl : r.length = ks.length) : deedR ks r = deedL "unwant" r := by
  have ek : kindsOf "unwant" = some (["hand", "wish"] : List Str) := by decide +kernel
  rw [ek] at hk
  injection hk with hk
  subst hk
  have e1 : numsAt "unwant" = [] := by decide +kernel
  have e2 : handB "unwant" = true := by decide +kernel
  have e3 : wishB "unwant" = true := by decide +kernel
  have e4 : decide (("unwant" : Str) ≠ "tell") = true := by decide +kernel
  match r, hl with
  | [a, b], _ =>
    unfold deedL deedR
    rw [e1, e2, e3, e4]
    simp [List.range_succ, kindY_hand, kindY_post, kindY_wish, kindY_piece] <;> exact Bool.and_comm _ _
theorem deed_tell (r : List DY) (ks : List Str) (hk : kindsOf "tell" = some ks) (hl : r.length = ks.length) : deedR ks r = deedL "tell" r := by
  have ek : kindsOf "tell" = some (["post", "piece"] : List Str) := by decide +kernel
  rw [ek] at hk
  injection hk with hk
  subst hk
  have e1 : numsAt "tell" = [1] := by decide +kernel
  have e2 : handB "tell" = false := by decide +kernel
  have e3 : wishB "tell" = false := by decide +kernel
  have e4 : decide (("tell" : Str) ≠ "tell") = false := by decide +kernel
  match r, hl with
  | [a, b], _ =>
    unfold deedL deedR
    rw [e1, e2, e3, e4]
    simp [List.range_succ, kindY_hand, kindY_post, kindY_wish, kindY_piece] <;> exact Bool.and_comm _ _
theorem deed_move (r : List DY) (ks : List Str) (hk : kindsOf "move" = some ks) (hl : r.length = ks.length) : deedR ks r = deedL "move" r := by
  have ek : kindsOf "move" = some (["hand", "post"] : List Str) := by decide +kernel
  rw [ek] at hk
  injection hk with hk
  subst hk
  have e1 : numsAt "move" = [2] := by decide +kernel
  have e2 : handB "move" = true := by decide +kernel
  have e3 : wishB "move" = false := by decide +kernel
  have e4 : decide (("move" : Str) ≠ "tell") = true := by decide +kernel
  match r, hl with
  | [a, b], _ =>
    unfold deedL deedR
    rw [e1, e2, e3, e4]
    simp [List.range_succ, kindY_hand, kindY_post, kindY_wish, kindY_piece] <;> exact Bool.and_comm _ _
theorem deed_grow (r : List DY) (ks : List Str) (hk : kindsOf "grow" = some ks) (hl : r.length = ks.length) : deedR ks r = deedL "grow" r := by
  have ek : kindsOf "grow" = some (["post"] : List Str) := by decide +kernel
  rw [ek] at hk
  injection hk with hk
  subst hk
  have e1 : numsAt "grow" = [1] := by decide +kernel
  have e2 : handB "grow" = false := by decide +kernel
  have e3 : wishB "grow" = false := by decide +kernel
  have e4 : decide (("grow" : Str) ≠ "tell") = true := by decide +kernel
  match r, hl with
  | [a], _ =>
    unfold deedL deedR
    rw [e1, e2, e3, e4]
    simp [List.range_succ, kindY_hand, kindY_post, kindY_wish, kindY_piece] <;> exact Bool.and_comm _ _
theorem deed_step (r : List DY) (ks : List Str) (hk : kindsOf "step" = some ks) (hl : r.length = ks.length) : deedR ks r = deedL "step" r := by
  have ek : kindsOf "step" = some (["post", "post"] : List Str) := by decide +kernel
  rw [ek] at hk
  injection hk with hk
  subst hk
  have e1 : numsAt "step" = [1, 2] := by decide +kernel
  have e2 : handB "step" = false := by decide +kernel
  have e3 : wishB "step" = false := by decide +kernel
  have e4 : decide (("step" : Str) ≠ "tell") = true := by decide +kernel
  match r, hl with
  | [a, b], _ =>
    unfold deedL deedR
    rw [e1, e2, e3, e4]
    simp [List.range_succ, kindY_hand, kindY_post, kindY_wish, kindY_piece] <;> exact Bool.and_comm _ _
theorem deed_all {w : Str} {ks : List Str} (r : List DY) (hk : kindsOf w = some ks) (hl : r.length = ks.length) : deedR ks r = deedL w r := by
  by_cases h0 : w = "come"
  · subst h0; exact deed_come r ks hk hl
  by_cases h1 : w = "go"
  · subst h1; exact deed_go r ks hk hl
  by_cases h2 : w = "want"
  · subst h2; exact deed_want r ks hk hl
  by_cases h3 : w = "unwant"
  · subst h3; exact deed_unwant r ks hk hl
  by_cases h4 : w = "tell"
  · subst h4; exact deed_tell r ks hk hl
  by_cases h5 : w = "move"
  · subst h5; exact deed_move r ks hk hl
  by_cases h6 : w = "grow"
  · subst h6; exact deed_grow r ks hk hl
  by_cases h7 : w = "step"
  · subst h7; exact deed_step r ks hk hl
  unfold kindsOf at hk
  simp only [if_neg h0, if_neg h1, if_neg h2, if_neg h3, if_neg h4, if_neg h5, if_neg h6, if_neg h7] at hk
  cases hk
theorem numsAt_in {w : Str} {ks : List Str} (hk : kindsOf w = some ks) : ∀ k ∈ numsAt w, 1 ≤ k ∧ k ≤ (ks.length : Int) := by
  by_cases h0 : w = "come"
  · subst h0
    have ek : kindsOf "come" = some (["hand", "post"] : List Str) := by decide +kernel
    rw [ek] at hk
    injection hk with hk
    subst hk
    decide +kernel
  by_cases h1 : w = "go"
  · subst h1
    have ek : kindsOf "go" = some (["hand"] : List Str) := by decide +kernel
    rw [ek] at hk
    injection hk with hk
    subst hk
    decide +kernel
  by_cases h2 : w = "want"
  · subst h2
    have ek : kindsOf "want" = some (["hand", "wish"] : List Str) := by decide +kernel
    rw [ek] at hk
    injection hk with hk
    subst hk
    decide +kernel
  by_cases h3 : w = "unwant"
  · subst h3
    have ek : kindsOf "unwant" = some (["hand", "wish"] : List Str) := by decide +kernel
    rw [ek] at hk
    injection hk with hk
    subst hk
    decide +kernel
  by_cases h4 : w = "tell"
  · subst h4
    have ek : kindsOf "tell" = some (["post", "piece"] : List Str) := by decide +kernel
    rw [ek] at hk
    injection hk with hk
    subst hk
    decide +kernel
  by_cases h5 : w = "move"
  · subst h5
    have ek : kindsOf "move" = some (["hand", "post"] : List Str) := by decide +kernel
    rw [ek] at hk
    injection hk with hk
    subst hk
    decide +kernel
  by_cases h6 : w = "grow"
  · subst h6
    have ek : kindsOf "grow" = some (["post"] : List Str) := by decide +kernel
    rw [ek] at hk
    injection hk with hk
    subst hk
    decide +kernel
  by_cases h7 : w = "step"
  · subst h7
    have ek : kindsOf "step" = some (["post", "post"] : List Str) := by decide +kernel
    rw [ek] at hk
    injection hk with hk
    subst hk
    decide +kernel
  unfold kindsOf at hk
  simp only [if_neg h0, if_neg h1, if_neg h2, if_neg h3, if_neg h4, if_neg h5, if_neg h6, if_neg h7] at hk
  cases hk
theorem sizes_merge : mergeK [] sizesKV = sizesKV := mergeK_app sizesKV [] (by decide +kernel)
theorem nums_merge (l1 l2 l3 l4 l5 : Addr) : mergeK [] (numsKV l1 l2 l3 l4 l5) = numsKV l1 l2 l3 l4 l5 := mergeK_app (numsKV l1 l2 l3 l4 l5) [] (show (([.inr "come", .inr "move", .inr "tell", .inr "grow", .inr "step"] : List Key)).Nodup by decide +kernel)
theorem two_of {w : Str} {ks : List Str} (hk : kindsOf w = some ks) : 1 ≤ ks.length ∧ (wishB w = true → ks.length = 2) ∧ (w = "tell" → ks.length = 2) := by
  by_cases h0 : w = "come"
  · subst h0
    have ek : kindsOf "come" = some (["hand", "post"] : List Str) := by decide +kernel
    rw [ek] at hk
    injection hk with hk
    subst hk
    decide +kernel
  by_cases h1 : w = "go"
  · subst h1
    have ek : kindsOf "go" = some (["hand"] : List Str) := by decide +kernel
    rw [ek] at hk
    injection hk with hk
    subst hk
    decide +kernel
  by_cases h2 : w = "want"
  · subst h2
    have ek : kindsOf "want" = some (["hand", "wish"] : List Str) := by decide +kernel
    rw [ek] at hk
    injection hk with hk
    subst hk
    decide +kernel
  by_cases h3 : w = "unwant"
  · subst h3
    have ek : kindsOf "unwant" = some (["hand", "wish"] : List Str) := by decide +kernel
    rw [ek] at hk
    injection hk with hk
    subst hk
    decide +kernel
  by_cases h4 : w = "tell"
  · subst h4
    have ek : kindsOf "tell" = some (["post", "piece"] : List Str) := by decide +kernel
    rw [ek] at hk
    injection hk with hk
    subst hk
    decide +kernel
  by_cases h5 : w = "move"
  · subst h5
    have ek : kindsOf "move" = some (["hand", "post"] : List Str) := by decide +kernel
    rw [ek] at hk
    injection hk with hk
    subst hk
    decide +kernel
  by_cases h6 : w = "grow"
  · subst h6
    have ek : kindsOf "grow" = some (["post"] : List Str) := by decide +kernel
    rw [ek] at hk
    injection hk with hk
    subst hk
    decide +kernel
  by_cases h7 : w = "step"
  · subst h7
    have ek : kindsOf "step" = some (["post", "post"] : List Str) := by decide +kernel
    rw [ek] at hk
    injection hk with hk
    subst hk
    decide +kernel
  unfold kindsOf at hk
  simp only [if_neg h0, if_neg h1, if_neg h2, if_neg h3, if_neg h4, if_neg h5, if_neg h6, if_neg h7] at hk
  cases hk
theorem nums_list {H : Hp} {l1 l2 l3 l4 l5 e : Addr} (w : Str) (h1 : H l1 = some (.lst [V.int 2])) (h2 : H l2 = some (.lst [V.int 2])) (h3 : H l3 = some (.lst [V.int 1])) (h4 : H l4 = some (.lst [V.int 1])) (h5 : H l5 = some (.lst [V.int 1, V.int 2])) (he : H e = some (.lst [])) :
    ∃ x, (valV (numsKV l1 l2 l3 l4 l5) (.inr w : Key)).getD (.ref e) = .ref x ∧ H x = some (.lst ((numsAt w).map V.int)) := by
  rw [nums_look]
  unfold numsAt
  by_cases n0 : w = "come"
  · simp only [if_pos n0]
    exact ⟨_, rfl, h1⟩
  by_cases n1 : w = "move"
  · simp only [if_neg n0, if_pos n1]
    exact ⟨_, rfl, h2⟩
  by_cases n2 : w = "tell"
  · simp only [if_neg n0, if_neg n1, if_pos n2]
    exact ⟨_, rfl, h3⟩
  by_cases n3 : w = "grow"
  · simp only [if_neg n0, if_neg n1, if_neg n2, if_pos n3]
    exact ⟨_, rfl, h4⟩
  by_cases n4 : w = "step"
  · simp only [if_neg n0, if_neg n1, if_neg n2, if_neg n3, if_pos n4]
    exact ⟨_, rfl, h5⟩
  simp only [if_neg n0, if_neg n1, if_neg n2, if_neg n3, if_neg n4]
  exact ⟨_, rfl, he⟩
section
variable {P : Program} {w : World} {K : PySem.W.Frag} {mg : Str → Option Value} {base : Heap}
theorem sc_is_whole : FnScope ["thing"] ["thing"] (defScope s_is_whole) := ⟨rfl, rfl, rfl, by decide +kernel, rfl, by decide +kernel, by decide +kernel⟩
theorem ok_is_whole {f : Addr} {fd : FuncData} (F : Fun K "is_whole" "is_whole" s_is_whole f fd) (B : Bl mg) {aD t1 t2 t3 t4 t5 t6 t7 t8 : Addr} (De : Deeds K w mg aD t1 t2 t3 t4 t5 t6 t7 t8) (C_DEED_PARTS : mg "DEED_PARTS" = some (.ref aD)) {t_MOST_LETTERS : Tok} (C_MOST_LETTERS : mg "MOST_LETTERS" = some (.int 8 t_MOST_LETTERS))  : FnOk P w K mg base CX0 1 f fd ["thing"] (spWhole K) := by
  refine F.ok sc_is_whole (fun vs H Q E h => ?_) (fun cdv A outer s H vs Q E hr h => ?_)
  · obtain ⟨v, t, rfl, hty, q⟩ := h
    rfl
  obtain ⟨v, t, rfl, hty, q⟩ := h
  refine ⟨_, (pss_one (ps_ret (pe_and (pe_callB (call_isinst (n := "")) rfl B.isinstance_ bt_isinstance (pa_cons (pv 0) (pa_cons (pe_bltn (v := .ty "int") rfl B.int_ bt_int rfl) pa_nil))) (pe_one (pe_not (pe_callB (call_isinst (n := "")) rfl B.isinstance_ bt_isinstance (pa_cons (pv 0) (pa_cons (pe_bltn (v := .ty "bool") rfl B.bool_ bt_bool rfl) pa_nil)))))))), ?_⟩
  cases hty
  all_goals first
    | exact ⟨_, rfl, _, "int", "int", true, rfl, .int _, rfl, _, rfl, iteT ⟨_, rfl, _, "int", "bool", false, rfl, .int _, rfl, _, rfl, q⟩⟩
    | exact ⟨_, rfl, _, "bool", "int", true, rfl, .bl _, rfl, _, rfl, iteT ⟨_, rfl, _, "bool", "bool", true, rfl, .bl _, rfl, _, rfl, q⟩⟩
    | exact ⟨_, rfl, _, _, "int", false, rfl, (by first | exact .non | exact .str _ | exact .flt _ | (exact .lst (by assumption)) | (exact .frz (by assumption)) | (exact .tup (by assumption)) | (exact .dK (by assumption)) | (exact .dT (by assumption))), rfl, _, rfl, iteF q⟩
theorem sc_is_end : FnScope ["thing"] ["thing"] (defScope s_is_end) := ⟨rfl, rfl, rfl, by decide +kernel, rfl, by decide +kernel, by decide +kernel⟩
theorem ok_is_end {f : Addr} {fd : FuncData} (F : Fun K "is_end" "is_end" s_is_end f fd) (B : Bl mg) {aD t1 t2 t3 t4 t5 t6 t7 t8 : Addr} (De : Deeds K w mg aD t1 t2 t3 t4 t5 t6 t7 t8) (C_DEED_PARTS : mg "DEED_PARTS" = some (.ref aD)) {t_MOST_LETTERS : Tok} (C_MOST_LETTERS : mg "MOST_LETTERS" = some (.int 8 t_MOST_LETTERS)) (G_is_whole : FnH P w K mg base 1 "is_whole" ["thing"] (spWhole K)) : FnOk P w K mg base CX0 2 f fd ["thing"] (spEnd K) := by
  refine F.ok sc_is_end (fun vs H Q E h => ?_) (fun cdv A outer s H vs Q E hr h => ?_)
  · obtain ⟨v, t, rfl, hty, q⟩ := h
    rfl
  obtain ⟨v, t, rfl, hty, q⟩ := h
  refine ⟨_, (pss_one (ps_ret (pe_or (pe_cmp (pc_isN (pv 0))) (pe_one (pe_fn G_is_whole (hr.mono (by decide)) rfl (pa_cons (pv 0) pa_nil)))))), ?_⟩
  refine ⟨_, rfl, _, rfl, ?_⟩
  cases hty
  case non => exact iteT q
  all_goals refine iteF ?_
  case int i => exact ⟨_, rfl, _, _, rfl, .int _, q⟩
  all_goals exact ⟨_, rfl, _, _, rfl, (by first | exact .bl _ | exact .str _ | exact .flt _ | (exact .lst (by assumption)) | (exact .frz (by assumption)) | (exact .tup (by assumption)) | (exact .dK (by assumption)) | (exact .dT (by assumption))), q⟩
theorem sc_is_span : FnScope ["thing", "low", "high"] ["thing"] (defScope s_is_span) := ⟨rfl, rfl, rfl, by decide +kernel, rfl, by decide +kernel, by decide +kernel⟩
theorem ok_is_span {f : Addr} {fd : FuncData} (F : Fun K "is_span" "is_span" s_is_span f fd) (B : Bl mg) {aD t1 t2 t3 t4 t5 t6 t7 t8 : Addr} (De : Deeds K w mg aD t1 t2 t3 t4 t5 t6 t7 t8) (C_DEED_PARTS : mg "DEED_PARTS" = some (.ref aD)) {t_MOST_LETTERS : Tok} (C_MOST_LETTERS : mg "MOST_LETTERS" = some (.int 8 t_MOST_LETTERS)) (G_is_end : FnH P w K mg base 2 "is_end" ["thing"] (spEnd K)) : FnOk P w K mg base CX0 3 f fd ["thing"] (spIsSpan K) := by
  refine F.ok sc_is_span (fun vs H Q E h => ?_) (fun cdv A outer s H vs Q E hr h => ?_)
  · obtain ⟨v, t, rfl, hty, hp, q⟩ := h
    rfl
  obtain ⟨v, t, rfl, hty, hp, q⟩ := h
  refine ⟨_, (pss_cons (ps_if (PW.pt (pw_or (pt_not (pt_val (pe_callB (call_isinst (n := "")) rfl B.isinstance_ bt_isinstance (pa_cons (pv 0) (pa_cons (pe_bltn (v := .ty "tuple") rfl B.tuple_ bt_tuple rfl) pa_nil))))) (pw_or1 (pt_cmpR op_ne (pe_callB call_len_seq rfl B.len_ bt_len (pa_cons (pv 0) pa_nil)) pe_int (nomark _))))) (pss_one (ps_ret pe_bl)) pss_nil)
      (pss_cons (ps_asg (pv 0) (pg_tup rfl (pgs_cons (pg_name (i := 1) sc_is_span.nd rfl (Or.inl rfl)) (pgs_cons (pg_name (i := 2) sc_is_span.nd rfl (Or.inl rfl)) pgs_nil))))
      (pss_cons (ps_if (PW.pt (pw_or (pt_not (pt_val (pe_fn G_is_end (hr.mono (by decide)) rfl (pa_cons (pv 1) pa_nil)))) (pw_or1 (pt_not (pt_val (pe_fn G_is_end (hr.mono (by decide)) rfl (pa_cons (pv 2) pa_nil))))))) (pss_one (ps_ret pe_bl)) pss_nil)
      (pss_one (ps_ret (pe_or (pe_cmp (pc_isN (pv 1))) (pe_or (pe_cmp (pc_isN (pv 2))) (pe_one (pe_cmpR op_le (pv 1) (pv 2) (nomark _)))))))))), ?_⟩
  have q0 : isSpanV H v = false → Q (.bl false) H := fun h => by rw [← h]; exact q
  cases hty
  case tup a xs e =>
    refine ⟨_, rfl, _, "tuple", "tuple", true, rfl, .tup e, rfl, _, rfl, iteF ⟨_, rfl, a, _, rfl, .inr (SqT.of e), rfl, _, rfl, ?_⟩⟩
    by_cases hl : xs.length = 2
    · match xs, hl with
      | [x, y], _ =>
        refine iteF ⟨_, rfl, a, _, rfl, SqT.of e, rfl, _, _, rfl, _, _, rfl, rfl, ?_⟩
        obtain ⟨t1, t2, h1, h2⟩ := hp a x y rfl e
        have es : isSpanV H (.ref a) = (endV x && endV y && leV x y) := by unfold isSpanV; simp only [e]
        rw [es] at q
        refine ⟨_, rfl, _, _, rfl, h1, _, rfl, ?_⟩
        cases ex : endV x with
        | false =>
          rw [ex] at q
          exact iteT q
        | true =>
          rw [ex] at q
          refine iteF ⟨_, rfl, _, _, rfl, h2, _, rfl, ?_⟩
          cases ey : endV y with
          | false =>
            rw [ey] at q
            exact iteT q
          | true =>
            rw [ey] at q
            refine iteF ⟨_, rfl, _, rfl, ?_⟩
            cases x with
            | non => exact iteT q
            | int i =>
              refine iteF ⟨_, rfl, _, rfl, ?_⟩
              cases y with
              | non => exact iteT q
              | int j => exact iteF ⟨_, rfl, _, rfl, _, _, rfl, rfl, q⟩
              | _ => exact absurd ey Bool.false_ne_true
            | _ => exact absurd ex Bool.false_ne_true
    · have es : isSpanV H (.ref a) = false := by
        unfold isSpanV
        simp only [e]
        match xs, hl with
        | [], _ => rfl
        | [_], _ => rfl
        | [_, _], h => exact absurd rfl h
        | _ :: _ :: _ :: _, _ => rfl
      have ed : (!decide (V.int ((xs.length : Nat) : Int) = V.int 2)) = true := by
        have : ¬ V.int ((xs.length : Nat) : Int) = V.int 2 := fun z => by injection z with z; omega
        rw [decide_eq_false this]
        rfl
      rw [es] at q
      show if (!decide (V.int ((xs.length : Nat) : Int) = V.int 2)) = true then _ else _
      rw [ed]
      exact iteT q
  case non => exact ⟨_, rfl, _, _, "tuple", false, rfl, .non, rfl, _, rfl, iteT (q0 rfl)⟩
  case bl b => exact ⟨_, rfl, _, _, "tuple", false, rfl, (.bl b), rfl, _, rfl, iteT (q0 rfl)⟩
  case int i => exact ⟨_, rfl, _, _, "tuple", false, rfl, (.int i), rfl, _, rfl, iteT (q0 rfl)⟩
  case str x => exact ⟨_, rfl, _, _, "tuple", false, rfl, (.str x), rfl, _, rfl, iteT (q0 rfl)⟩
  case flt x => exact ⟨_, rfl, _, _, "tuple", false, rfl, (.flt x), rfl, _, rfl, iteT (q0 rfl)⟩
  case lst a xs e => exact ⟨_, rfl, _, _, "tuple", false, rfl, (.lst e), rfl, _, rfl, iteT (q0 (by unfold isSpanV; simp only [e]))⟩
  case frz a o xs e => exact ⟨_, rfl, _, _, "tuple", false, rfl, (.frz e), rfl, _, rfl, iteT (q0 (by unfold isSpanV; simp only [e]))⟩
  case dK a kvs e => exact ⟨_, rfl, _, _, "tuple", false, rfl, (.dK e), rfl, _, rfl, iteT (q0 (by unfold isSpanV; simp only [e]))⟩
  case dT a kvs e => exact ⟨_, rfl, _, _, "tuple", false, rfl, (.dT e), rfl, _, rfl, iteT (q0 (by unfold isSpanV; simp only [e]))⟩
theorem sc_is_field : FnScope ["thing"] ["thing"] (defScope s_is_field) := ⟨rfl, rfl, rfl, by decide +kernel, rfl, by decide +kernel, by decide +kernel⟩
theorem ok_is_field {f : Addr} {fd : FuncData} (F : Fun K "is_field" "is_field" s_is_field f fd) (B : Bl mg) {aD t1 t2 t3 t4 t5 t6 t7 t8 : Addr} (De : Deeds K w mg aD t1 t2 t3 t4 t5 t6 t7 t8) (C_DEED_PARTS : mg "DEED_PARTS" = some (.ref aD)) {t_MOST_LETTERS : Tok} (C_MOST_LETTERS : mg "MOST_LETTERS" = some (.int 8 t_MOST_LETTERS))  : FnOk P w K mg base CX0 1 f fd ["thing"] (spLookD fieldY) := by
  refine F.ok sc_is_field (fun vs H Q E h => ?_) (fun cdv A outer s H vs Q E hr h => ?_)
  · obtain ⟨v, d, rfl, hd, q⟩ := h
    rfl
  obtain ⟨v, d, rfl, hd, q⟩ := h
  refine ⟨_, (pss_cons (ps_if (PW.pt (pw_or (pt_not (pt_val (pe_callB (call_isinst (n := "")) rfl B.isinstance_ bt_isinstance (pa_cons (pv 0) (pa_cons (pe_bltn (v := .ty "str") rfl B.str_ bt_str rfl) pa_nil))))) (pw_or1 (pt_not (pt_chain op_le op_le pe_int (pe_callB call_len_str rfl B.len_ bt_len (pa_cons (pv 0) pa_nil)) (pe_glob (v := .int 8) rfl C_MOST_LETTERS ⟨_, rfl⟩)))))) (pss_one (ps_ret pe_bl)) pss_nil)
      (pss_one (ps_ret (pe_callB (call_all rfl) rfl B.all_ bt_all (pa_cons (pe_lc (N' := ["sign"]) (js := [none]) rfl (capOk (N := ["thing"]) (outer := defScope s_is_field) (by decide +kernel)) (pi_str (pv 0)) (fun _ _ _ _ _ => (pg_name (i := 0) (show List.Nodup (["sign"] : List Str) by decide +kernel) rfl (Or.inl rfl))) (fun _ _ _ _ _ => pifs_nil) (fun _ _ _ _ _ => (pe_chain op_le_str op_le_str pe_str (pv 0) pe_str))) pa_nil))))), ?_⟩
  cases d with
  | str x =>
    rw [RepY] at hd
    obtain ⟨rfl, hx⟩ := hd
    refine ⟨_, rfl, _, "str", "str", true, rfl, .str x, rfl, _, rfl, iteF ⟨_, rfl, x, rfl, small (by omega), _, _, rfl, rfl, _, rfl, ?_⟩⟩
    have qf : ∀ b, fieldS x = b → ∀ H', Same H H' → Q (.bl b) H' := fun b e H' s => by rw [← e]; exact q H' s
    by_cases l1 : (1 : Int) ≤ (x.length : Int)
    · rw [decide_eq_true l1]
      refine iteT ⟨_, _, rfl, rfl, _, rfl, ?_⟩
      by_cases l8 : (x.length : Int) ≤ 8
      · rw [decide_eq_true l8]
        refine iteF ⟨_, rfl, x, rfl, fun p hp => ?_⟩
        have sl : (L2.signs x).length = x.length := by unfold L2.signs; rw [List.length_map, Array.length_toList]; rfl
        refine lc_itv (xs := L2.signs x) (fun i σ' ys H' => (∃ v, σ' = [v]) ∧ Same H H' ∧ H' p = some (.lst ys) ∧ ys = ((x.cps.toList.take i).map letterOk).map V.bl) ⟨⟨none, rfl⟩, same_new hp _, upd_same, rfl⟩ ?_ ?_ ?_
        · rintro i σ' ys H' hi ⟨_, _, h1, h2⟩
          refine ⟨h1, ?_⟩
          rw [h2, List.length_map, List.length_map, List.length_take]
          exact small1000 (by omega)
        · rintro i y σ' ys H' N hy ⟨⟨v, rfl⟩, s, h1, h2⟩ hN
          unfold L2.signs at hy
          rw [List.getElem?_map] at hy
          cases hc : x.cps.toList[i]? with
          | none => rw [hc] at hy; cases hy
          | some c =>
            rw [hc] at hy
            obtain rfl : V.str ⟨#[c]⟩ = y := Option.some.inj hy
            refine ⟨_, rfl, _, _, rfl, rfl, _, rfl, ?_⟩
            rw [ge_aB]
            have fin : ∀ b, letterOk c = b → H' p = some (.lst ys) ∧ N [some (V.str ⟨#[c]⟩)] (ys ++ [V.bl b]) (upd H' p (.lst (ys ++ [V.bl b]))) := fun b e =>
              ⟨h1, hN _ _ _ ⟨⟨_, rfl⟩, upd_off s hp, upd_same, by rw [h2, take_snoc hc, List.map_append, List.map_append, ← e]; rfl⟩⟩
            cases hb : decide (97 ≤ c) with
            | true =>
              refine iteT ⟨_, _, rfl, rfl, ?_⟩
              dsimp only
              rw [le_zB]
              exact fin _ (by unfold letterOk; rw [hb, Bool.true_and])
            | false => exact iteF (fin _ (by unfold letterOk; rw [hb, Bool.false_and]))
        · rintro σ' ys H' ⟨_, s, h1, h2⟩
          have et : x.cps.toList.take (L2.signs x).length = x.cps.toList := List.take_of_length_le (by rw [sl]; exact Nat.le_of_eq (Array.length_toList ..))
          refine ⟨p, x.cps.toList.map letterOk, rfl, SqL.of (by rw [h1, h2, et]), qf _ ?_ H' s⟩
          have e1 : decide (1 ≤ x.length) = true := decide_eq_true (by omega)
          have e2 : decide (x.length ≤ 8) = true := decide_eq_true (by omega)
          unfold fieldS
          rw [e1, e2, bls_all]
          rfl
      · rw [decide_eq_false l8]
        refine iteT (qf _ ?_ H (Same.refl _))
        have e2 : decide (x.length ≤ 8) = false := decide_eq_false (by omega)
        unfold fieldS
        rw [e2, Bool.and_false]
        rfl
    · rw [decide_eq_false l1]
      refine iteF ⟨_, rfl, iteT (qf _ ?_ H (Same.refl _))⟩
      have e1 : decide (1 ≤ x.length) = false := decide_eq_false (by omega)
      unfold fieldS
      rw [e1]
      rfl
  | _ => exact ⟨_, rfl, _, _, "str", false, rfl, hd.ty, rfl, _, rfl, iteT (q _ (Same.refl _))⟩
theorem sc_is_wish_part : FnScope ["thing", "field", "low", "high"] ["thing"] (defScope s_is_wish_part) := ⟨rfl, rfl, rfl, by decide +kernel, rfl, by decide +kernel, by decide +kernel⟩
theorem ok_is_wish_part {f : Addr} {fd : FuncData} (F : Fun K "is_wish_part" "is_wish_part" s_is_wish_part f fd) (B : Bl mg) {aD t1 t2 t3 t4 t5 t6 t7 t8 : Addr} (De : Deeds K w mg aD t1 t2 t3 t4 t5 t6 t7 t8) (C_DEED_PARTS : mg "DEED_PARTS" = some (.ref aD)) {t_MOST_LETTERS : Tok} (C_MOST_LETTERS : mg "MOST_LETTERS" = some (.int 8 t_MOST_LETTERS)) (G_is_field : FnH P w K mg base 1 "is_field" ["thing"] (spLookD fieldY)) (G_is_span : FnH P w K mg base 3 "is_span" ["thing"] (spIsSpan K)) : FnOk P w K mg base CX0 4 f fd ["thing"] (spLookD wpartY) := by
  refine F.ok sc_is_wish_part (fun vs H Q E h => ?_) (fun cdv A outer s H vs Q E hr h => ?_)
  · obtain ⟨v, d, rfl, hd, q⟩ := h
    rfl
  obtain ⟨v, d, rfl, hd, q⟩ := h
  refine ⟨_, (pss_cons (ps_if (PW.pt (pw_or (pt_not (pt_val (pe_callB (call_isinst (n := "")) rfl B.isinstance_ bt_isinstance (pa_cons (pv 0) (pa_cons (pe_bltn (v := .ty "tuple") rfl B.tuple_ bt_tuple rfl) pa_nil))))) (pw_or1 (pt_cmpR op_ne (pe_callB call_len_seq rfl B.len_ bt_len (pa_cons (pv 0) pa_nil)) pe_int (nomark _))))) (pss_one (ps_ret pe_bl)) pss_nil)
      (pss_cons (ps_asg (pv 0) (pg_tup rfl (pgs_cons (pg_name (i := 1) sc_is_wish_part.nd rfl (Or.inl rfl)) (pgs_cons (pg_name (i := 2) sc_is_wish_part.nd rfl (Or.inl rfl)) (pgs_cons (pg_name (i := 3) sc_is_wish_part.nd rfl (Or.inl rfl)) pgs_nil)))))
      (pss_one (ps_ret (pe_and (pe_fn G_is_field (hr.mono (by decide)) rfl (pa_cons (pv 1) pa_nil)) (pe_one (pe_fn G_is_span (hr.mono (by decide)) rfl (pa_cons (pe_tup (pa_cons (pv 2) (pa_cons (pv 3) pa_nil))) pa_nil)))))))), ?_⟩
  cases d with
  | tup ds =>
    rw [RepY] at hd
    obtain ⟨a, xs, rfl, h1, h0, h2⟩ := hd
    have lx := h2.length
    refine ⟨_, rfl, _, "tuple", "tuple", true, rfl, .tup h1, rfl, _, rfl, iteF ⟨_, rfl, a, _, rfl, .inr (SqT.of h1), rfl, _, rfl, ?_⟩⟩
    by_cases hl : ds.length = 3
    · refine iteNS (by rw [lx, hl]; rfl) ?_
      obtain ⟨df, dl, dh, rfl⟩ : ∃ x y z, ds = [x, y, z] := by
        match ds, hl with
        | [x, y, z], _ => exact ⟨x, y, z, rfl⟩
      obtain ⟨vf, vl, vh, rfl, r1, r2, r3⟩ := h2.three
      refine ⟨_, rfl, a, _, rfl, SqT.of h1, rfl, _, _, rfl, _, _, rfl, _, _, rfl, rfl, ?_⟩
      refine ⟨_, rfl, vf, df, rfl, r1, fun H1 s1 => ⟨_, rfl, ?_⟩⟩
      have qw : wpartY (.tup [df, dl, dh]) = (fieldY df && spanY (.tup [dl, dh])) := rfl
      rw [qw] at q
      cases hf : fieldY df with
      | false =>
        rw [hf] at q
        exact iteF (q _ s1)
      | true =>
        rw [hf, Bool.true_and] at q
        refine iteT ⟨_, rfl, _, rfl, (by show 2 ≤ sizeLine; decide), fun t ht => ?_⟩
        have st := same_new ht (.tup [vl, vh])
        have rt : RepY (upd H1 t (.tup [vl, vh])) (.tup [dl, dh]) (.ref t) := by
          rw [RepY]
          exact ⟨t, _, rfl, upd_same, by simp, RepYs.mk2 (r2.same (s1.trans st)) (r3.same (s1.trans st))⟩
        obtain ⟨e1, e2⟩ := spanY_V (K := K) rt
        refine ⟨.ref t, _, rfl, rt.ty, e2, ?_⟩
        rw [e1]
        exact q _ (s1.trans st)
    · rw [wpart_len hl] at q
      have : ¬ V.int (xs.length : Int) = V.int 3 := fun z => hl (by injection z with z; omega)
      rw [decide_eq_false this]
      exact iteT (q _ (Same.refl _))
  | _ => exact ⟨_, rfl, _, _, "tuple", false, rfl, hd.ty, rfl, _, rfl, iteT (q _ (Same.refl _))⟩
theorem sc_is_piece_part : FnScope ["thing", "field", "number"] ["thing"] (defScope s_is_piece_part) := ⟨rfl, rfl, rfl, by decide +kernel, rfl, by decide +kernel, by decide +kernel⟩
theorem ok_is_piece_part {f : Addr} {fd : FuncData} (F : Fun K "is_piece_part" "is_piece_part" s_is_piece_part f fd) (B : Bl mg) {aD t1 t2 t3 t4 t5 t6 t7 t8 : Addr} (De : Deeds K w mg aD t1 t2 t3 t4 t5 t6 t7 t8) (C_DEED_PARTS : mg "DEED_PARTS" = some (.ref aD)) {t_MOST_LETTERS : Tok} (C_MOST_LETTERS : mg "MOST_LETTERS" = some (.int 8 t_MOST_LETTERS)) (G_is_field : FnH P w K mg base 1 "is_field" ["thing"] (spLookD fieldY)) (G_is_whole : FnH P w K mg base 1 "is_whole" ["thing"] (spWhole K)) : FnOk P w K mg base CX0 2 f fd ["thing"] (spLookD ppartY) := by
  refine F.ok sc_is_piece_part (fun vs H Q E h => ?_) (fun cdv A outer s H vs Q E hr h => ?_)
  · obtain ⟨v, d, rfl, hd, q⟩ := h
    rfl
  obtain ⟨v, d, rfl, hd, q⟩ := h
  refine ⟨_, (pss_cons (ps_if (PW.pt (pw_or (pt_not (pt_val (pe_callB (call_isinst (n := "")) rfl B.isinstance_ bt_isinstance (pa_cons (pv 0) (pa_cons (pe_bltn (v := .ty "tuple") rfl B.tuple_ bt_tuple rfl) pa_nil))))) (pw_or1 (pt_cmpR op_ne (pe_callB call_len_seq rfl B.len_ bt_len (pa_cons (pv 0) pa_nil)) pe_int (nomark _))))) (pss_one (ps_ret pe_bl)) pss_nil)
      (pss_cons (ps_asg (pv 0) (pg_tup rfl (pgs_cons (pg_name (i := 1) sc_is_piece_part.nd rfl (Or.inl rfl)) (pgs_cons (pg_name (i := 2) sc_is_piece_part.nd rfl (Or.inl rfl)) pgs_nil))))
      (pss_one (ps_ret (pe_and (pe_fn G_is_field (hr.mono (by decide)) rfl (pa_cons (pv 1) pa_nil)) (pe_one (pe_fn G_is_whole (hr.mono (by decide)) rfl (pa_cons (pv 2) pa_nil)))))))), ?_⟩
  cases d with
  | tup ds =>
    rw [RepY] at hd
    obtain ⟨a, xs, rfl, h1, h0, h2⟩ := hd
    have lx := h2.length
    refine ⟨_, rfl, _, "tuple", "tuple", true, rfl, .tup h1, rfl, _, rfl, iteF ⟨_, rfl, a, _, rfl, .inr (SqT.of h1), rfl, _, rfl, ?_⟩⟩
    by_cases hl : ds.length = 2
    · refine iteNS (by rw [lx, hl]; rfl) ?_
      obtain ⟨df, dn, rfl⟩ : ∃ x y, ds = [x, y] := by
        match ds, hl with
        | [x, y], _ => exact ⟨x, y, rfl⟩
      obtain ⟨vf, vn, rfl, r1, r2⟩ := h2.two
      refine ⟨_, rfl, a, _, rfl, SqT.of h1, rfl, _, _, rfl, _, _, rfl, rfl, ?_⟩
      refine ⟨_, rfl, vf, df, rfl, r1, fun H1 s1 => ⟨_, rfl, ?_⟩⟩
      have qw : ppartY (.tup [df, dn]) = (fieldY df && wholeY dn) := rfl
      rw [qw] at q
      cases hf : fieldY df with
      | false =>
        rw [hf] at q
        exact iteF (q _ s1)
      | true =>
        rw [hf, Bool.true_and] at q
        refine iteT ⟨_, rfl, vn, _, rfl, (r2.same s1).ty, ?_⟩
        rw [wholeY_ty]
        exact q _ s1
    · rw [ppart_len hl] at q
      have : ¬ V.int (xs.length : Int) = V.int 2 := fun z => hl (by injection z with z; omega)
      rw [decide_eq_false this]
      exact iteT (q _ (Same.refl _))
  | _ => exact ⟨_, rfl, _, _, "tuple", false, rfl, hd.ty, rfl, _, rfl, iteT (q _ (Same.refl _))⟩
theorem sc_fields_ascend : FnScope ["parts"] ["parts"] (defScope s_fields_ascend) := ⟨rfl, rfl, rfl, by decide +kernel, rfl, by decide +kernel, by decide +kernel⟩
theorem ok_fields_ascend {f : Addr} {fd : FuncData} (F : Fun K "fields_ascend" "fields_ascend" s_fields_ascend f fd) (B : Bl mg) {aD t1 t2 t3 t4 t5 t6 t7 t8 : Addr} (De : Deeds K w mg aD t1 t2 t3 t4 t5 t6 t7 t8) (C_DEED_PARTS : mg "DEED_PARTS" = some (.ref aD)) {t_MOST_LETTERS : Tok} (C_MOST_LETTERS : mg "MOST_LETTERS" = some (.int 8 t_MOST_LETTERS))  : FnOk P w K mg base CX0 1 f fd ["parts"] (spLookE (fun ds => ∀ d ∈ ds, (headS d).isSome = true) ascY) := by
  refine F.ok sc_fields_ascend (fun vs H Q E h => ?_) (fun cdv A outer s H vs Q E hr h => ?_)
  · obtain ⟨v, ds, rfl, hd, hp, q⟩ := h
    rfl
  obtain ⟨v, ds, rfl, hd, hp, q⟩ := h
  refine ⟨_, (pss_one (ps_ret (pe_callB (call_all rfl) rfl B.all_ bt_all (pa_cons (pe_lc (N' := ["ahead", "behind"]) (js := [none, none]) rfl (capOk (N := ["parts"]) (outer := defScope s_fields_ascend) (by decide +kernel)) (pi_zip rfl B.zip_ (pa_cons (pv 0) (pa_cons (pe_slice sl_tupW (pv 0) (po_some pe_int) po_none) pa_nil))) (fun _ _ _ _ _ => (pg_tupK K rfl (n := 2) rfl (pgs_cons (pg_name (i := 0) (show List.Nodup (["ahead", "behind"] : List Str) by decide +kernel) rfl (Or.inl rfl)) (pgs_cons (pg_name (i := 1) (show List.Nodup (["ahead", "behind"] : List Str) by decide +kernel) rfl (Or.inl rfl)) pgs_nil)))) (fun _ _ _ _ _ => pifs_nil) (fun _ _ _ _ _ => (pe_cmpR op_lt_str (pe_ix (ix_tupK K rfl) (pv 0) pe_int (fun _ _ => rfl)) (pe_ix (ix_tupK K rfl) (pv 1) pe_int (fun _ _ => rfl)) (nomark _)))) pa_nil)))), ?_⟩
  rw [RepY] at hd
  obtain ⟨a, xs, rfl, ha, h0, h2⟩ := hd
  have lx := h2.length
  refine ⟨_, rfl, _, rfl, _, rfl, ?_⟩
  dsimp only [tNoPart]
  refine sl_tail (SqT.of ha) fun p1 H1 s1 q1 => ?_
  refine ⟨a, p1, rfl, ⟨_, s1.seqT (SqT.of ha)⟩, ⟨_, q1⟩, fun p hp' => ?_⟩
  have ld : (xs.drop 1).length = ds.length - 1 := by rw [List.length_drop, lx]
  refine lc_zip (n := ds.length - 1) (xs := xs) (ys := xs.drop 1) (by omega) (by rw [ld]; exact Nat.le_refl _) (.inr (by rw [ld]; exact Nat.le_refl _))
    (fun i σ' ys H' => (∃ v w, σ' = [v, w]) ∧ Same H1 H' ∧ H' p = some (.lst ys) ∧ ys = ((List.range i).map (fun i => ascB (ds.getD i .non) (ds.getD (i + 1) .non))).map V.bl) ⟨⟨none, none, rfl⟩, same_new hp' _, upd_same, rfl⟩ ?_ ?_ ?_
  · rintro i σ' zs H' hi ⟨_, s, h1, h3⟩
    refine ⟨(s1.trans s).seqT (SqT.of ha), s.seqT q1, h1, ?_⟩
    rw [h3, List.length_map, List.length_map, List.length_range]
    exact small1000 (by omega)
  · rintro i x y σ' zs H' r N hx hy hr' ⟨⟨v, w', rfl⟩, s, h1, h3⟩ hN
    rw [List.getElem?_drop, Nat.add_comm] at hy
    obtain ⟨d1, e1, r1⟩ := h2.get hx
    obtain ⟨d2, e2, r2⟩ := h2.get hy
    obtain ⟨x1, f1⟩ := Option.isSome_iff_exists.mp (hp d1 (List.mem_of_getElem? e1))
    obtain ⟨x2, f2⟩ := Option.isSome_iff_exists.mp (hp d2 (List.mem_of_getElem? e2))
    obtain ⟨a1, t1, rfl, g1⟩ := head_rep r1 f1
    obtain ⟨a2, t2, rfl, g2⟩ := head_rep r2 f2
    have s3 := same_new hr' (.tup [V.ref a1, V.ref a2])
    have t3 := (s1.trans s).trans s3
    refine ⟨r, _, rfl, SqT.of upd_same, rfl, _, _, rfl, _, _, rfl, rfl, ?_⟩
    refine ⟨_, rfl, a1, _, 0, _, rfl, rfl, SqT.of (t3 _ _ g1), at0, _, rfl, a2, _, 0, _, rfl, rfl, SqT.of (t3 _ _ g2), at0, _, _, rfl, rfl, ?_⟩
    refine ⟨s3 _ _ h1, hN _ _ _ ⟨⟨_, _, rfl⟩, upd_off (s.trans s3) hp', upd_same, ?_⟩⟩
    rw [h3, List.range_succ, List.map_append, List.map_append]
    congr 1
    show [V.bl (decide (x1.cps.toList < x2.cps.toList))] = [V.bl (ascB (ds.getD i .non) (ds.getD (i + 1) .non))]
    rw [List.getD_eq_getElem?_getD, List.getD_eq_getElem?_getD, e1, e2]
    show _ = [V.bl (ascB d1 d2)]
    rw [ascB_of f1 f2]
  · rintro σ' zs H' ⟨_, s, h1, h3⟩
    refine ⟨p, _, rfl, SqL.of (by rw [h1, h3]), ?_⟩
    rw [← ascY_all]
    exact q H' (s1.trans s)
theorem sc_is_wish : FnScope ["thing"] ["thing"] (defScope s_is_wish) := ⟨rfl, rfl, rfl, by decide +kernel, rfl, by decide +kernel, by decide +kernel⟩
theorem ok_is_wish {f : Addr} {fd : FuncData} (F : Fun K "is_wish" "is_wish" s_is_wish f fd) (B : Bl mg) {aD t1 t2 t3 t4 t5 t6 t7 t8 : Addr} (De : Deeds K w mg aD t1 t2 t3 t4 t5 t6 t7 t8) (C_DEED_PARTS : mg "DEED_PARTS" = some (.ref aD)) {t_MOST_LETTERS : Tok} (C_MOST_LETTERS : mg "MOST_LETTERS" = some (.int 8 t_MOST_LETTERS)) (G_fields_ascend : FnH P w K mg base 1 "fields_ascend" ["parts"] (spLookE (fun ds => ∀ d ∈ ds, (headS d).isSome = true) ascY)) (G_is_wish_part : FnH P w K mg base 4 "is_wish_part" ["thing"] (spLookD wpartY)) : FnOk P w K mg base CX0 5 f fd ["thing"] (spLookD wishY) := by
  refine F.ok sc_is_wish (fun vs H Q E h => ?_) (fun cdv A outer s H vs Q E hr h => ?_)
  · obtain ⟨v, d, rfl, hd, q⟩ := h
    rfl
  obtain ⟨v, d, rfl, hd, q⟩ := h
  refine ⟨_, (pss_cons (ps_if (pt_not (pt_val (pe_callB (call_isinst (n := "")) rfl B.isinstance_ bt_isinstance (pa_cons (pv 0) (pa_cons (pe_bltn (v := .ty "tuple") rfl B.tuple_ bt_tuple rfl) pa_nil))))) (pss_one (ps_ret pe_bl)) pss_nil)
      (pss_one (ps_ret (pe_and (pe_callB (call_all rfl) rfl B.all_ bt_all (pa_cons (pe_lc (N' := ["part"]) (js := [none]) rfl (capOk (N := ["thing"]) (outer := defScope s_is_wish) (by decide +kernel)) (pi_tup (pv 0)) (fun _ _ _ _ _ => (pg_name (i := 0) (show List.Nodup (["part"] : List Str) by decide +kernel) rfl (Or.inl rfl))) (fun _ _ _ _ _ => pifs_nil) (fun _ _ _ _ _ => (pe_fn G_is_wish_part (hr.mono (by decide)) rfl (pa_cons (pv 0) pa_nil)))) pa_nil)) (pe_one (pe_fn G_fields_ascend (hr.mono (by decide)) rfl (pa_cons (pv 0) pa_nil))))))), ?_⟩
  cases d with
  | tup ds =>
    have hd0 := hd
    rw [RepY] at hd
    obtain ⟨a, xs, rfl, ha, h0, h2⟩ := hd
    have lx := h2.length
    refine ⟨_, rfl, _, "tuple", "tuple", true, rfl, .tup ha, rfl, _, rfl, iteF ?_⟩
    refine ⟨_, rfl, a, rfl, ⟨_, SqT.of ha⟩, fun p hp => ?_⟩
    refine lc_tup (xs := xs) (fun i σ' ys H' => (∃ v, σ' = [v]) ∧ Same H H' ∧ H' p = some (.lst ys) ∧ ys = ((ds.take i).map wpartY).map V.bl) ⟨⟨none, rfl⟩, same_new hp _, upd_same, rfl⟩ ?_ ?_ ?_
    · rintro i σ' ys H' hi ⟨_, s, h1, h3⟩
      refine ⟨s.seqT (SqT.of ha), h1, ?_⟩
      rw [h3, List.length_map, List.length_map, List.length_take]
      exact small1000 (by omega)
    · rintro i x σ' ys H' N hx ⟨⟨v, rfl⟩, s, h1, h3⟩ hN
      obtain ⟨d1, e1, r1⟩ := h2.get hx
      refine ⟨_, rfl, x, d1, rfl, r1.same s, fun H2 s2 => ?_⟩
      refine ⟨s2 _ _ h1, hN _ _ _ ⟨⟨_, rfl⟩, upd_off (s.trans s2) hp, upd_same, ?_⟩⟩
      rw [h3, take_snoc e1, List.map_append, List.map_append]
      rfl
    · rintro σ' ys H' ⟨_, s, h1, h3⟩
      rw [List.take_of_length_le (by omega)] at h3
      refine ⟨p, ds.map wpartY, rfl, SqL.of (by rw [h1, h3]), _, rfl, ?_⟩
      rw [bls_all]
      have qw : wishY (.tup ds) = (ds.all wpartY && ascY ds) := rfl
      rw [qw] at q
      cases hb : ds.all wpartY with
      | false =>
        rw [hb, Bool.false_and] at q
        exact iteF (q _ s)
      | true =>
        rw [hb, Bool.true_and] at q
        exact iteT ⟨_, rfl, .ref a, ds, rfl, hd0.same s, fun d1 hd1 => wpart_head (List.all_eq_true.mp hb d1 hd1), fun H2 s2 => q H2 (s.trans s2)⟩
  | _ => exact ⟨_, rfl, _, _, "tuple", false, rfl, hd.ty, rfl, _, rfl, iteT (q _ (Same.refl _))⟩
theorem sc_is_piece : FnScope ["thing"] ["thing"] (defScope s_is_piece) := ⟨rfl, rfl, rfl, by decide +kernel, rfl, by decide +kernel, by decide +kernel⟩
theorem ok_is_piece {f : Addr} {fd : FuncData} (F : Fun K "is_piece" "is_piece" s_is_piece f fd) (B : Bl mg) {aD t1 t2 t3 t4 t5 t6 t7 t8 : Addr} (De : Deeds K w mg aD t1 t2 t3 t4 t5 t6 t7 t8) (C_DEED_PARTS : mg "DEED_PARTS" = some (.ref aD)) {t_MOST_LETTERS : Tok} (C_MOST_LETTERS : mg "MOST_LETTERS" = some (.int 8 t_MOST_LETTERS)) (G_fields_ascend : FnH P w K mg base 1 "fields_ascend" ["parts"] (spLookE (fun ds => ∀ d ∈ ds, (headS d).isSome = true) ascY)) (G_is_piece_part : FnH P w K mg base 2 "is_piece_part" ["thing"] (spLookD ppartY)) : FnOk P w K mg base CX0 3 f fd ["thing"] (spLookD pieceY) := by
  refine F.ok sc_is_piece (fun vs H Q E h => ?_) (fun cdv A outer s H vs Q E hr h => ?_)
  · obtain ⟨v, d, rfl, hd, q⟩ := h
    rfl
  obtain ⟨v, d, rfl, hd, q⟩ := h
  refine ⟨_, (pss_cons (ps_if (pt_not (pt_val (pe_callB (call_isinst (n := "")) rfl B.isinstance_ bt_isinstance (pa_cons (pv 0) (pa_cons (pe_bltn (v := .ty "tuple") rfl B.tuple_ bt_tuple rfl) pa_nil))))) (pss_one (ps_ret pe_bl)) pss_nil)
      (pss_one (ps_ret (pe_and (pe_callB (call_all rfl) rfl B.all_ bt_all (pa_cons (pe_lc (N' := ["part"]) (js := [none]) rfl (capOk (N := ["thing"]) (outer := defScope s_is_piece) (by decide +kernel)) (pi_tup (pv 0)) (fun _ _ _ _ _ => (pg_name (i := 0) (show List.Nodup (["part"] : List Str) by decide +kernel) rfl (Or.inl rfl))) (fun _ _ _ _ _ => pifs_nil) (fun _ _ _ _ _ => (pe_fn G_is_piece_part (hr.mono (by decide)) rfl (pa_cons (pv 0) pa_nil)))) pa_nil)) (pe_one (pe_fn G_fields_ascend (hr.mono (by decide)) rfl (pa_cons (pv 0) pa_nil))))))), ?_⟩
  cases d with
  | tup ds =>
    have hd0 := hd
    rw [RepY] at hd
    obtain ⟨a, xs, rfl, ha, h0, h2⟩ := hd
    have lx := h2.length
    refine ⟨_, rfl, _, "tuple", "tuple", true, rfl, .tup ha, rfl, _, rfl, iteF ?_⟩
    refine ⟨_, rfl, a, rfl, ⟨_, SqT.of ha⟩, fun p hp => ?_⟩
    refine lc_tup (xs := xs) (fun i σ' ys H' => (∃ v, σ' = [v]) ∧ Same H H' ∧ H' p = some (.lst ys) ∧ ys = ((ds.take i).map ppartY).map V.bl) ⟨⟨none, rfl⟩, same_new hp _, upd_same, rfl⟩ ?_ ?_ ?_
    · rintro i σ' ys H' hi ⟨_, s, h1, h3⟩
      refine ⟨s.seqT (SqT.of ha), h1, ?_⟩
      rw [h3, List.length_map, List.length_map, List.length_take]
      exact small1000 (by omega)
    · rintro i x σ' ys H' N hx ⟨⟨v, rfl⟩, s, h1, h3⟩ hN
      obtain ⟨d1, e1, r1⟩ := h2.get hx
      refine ⟨_, rfl, x, d1, rfl, r1.same s, fun H2 s2 => ?_⟩
      refine ⟨s2 _ _ h1, hN _ _ _ ⟨⟨_, rfl⟩, upd_off (s.trans s2) hp, upd_same, ?_⟩⟩
      rw [h3, take_snoc e1, List.map_append, List.map_append]
      rfl
    · rintro σ' ys H' ⟨_, s, h1, h3⟩
      rw [List.take_of_length_le (by omega)] at h3
      refine ⟨p, ds.map ppartY, rfl, SqL.of (by rw [h1, h3]), _, rfl, ?_⟩
      rw [bls_all]
      have qw : pieceY (.tup ds) = (ds.all ppartY && ascY ds) := rfl
      rw [qw] at q
      cases hb : ds.all ppartY with
      | false =>
        rw [hb, Bool.false_and] at q
        exact iteF (q _ s)
      | true =>
        rw [hb, Bool.true_and] at q
        exact iteT ⟨_, rfl, .ref a, ds, rfl, hd0.same s, fun d1 hd1 => ppart_head (List.all_eq_true.mp hb d1 hd1), fun H2 s2 => q H2 (s.trans s2)⟩
  | _ => exact ⟨_, rfl, _, _, "tuple", false, rfl, hd.ty, rfl, _, rfl, iteT (q _ (Same.refl _))⟩
theorem sc_is_name : FnScope ["thing"] ["thing"] (defScope s_is_name) := ⟨rfl, rfl, rfl, by decide +kernel, rfl, by decide +kernel, by decide +kernel⟩
theorem ok_is_name {f : Addr} {fd : FuncData} (F : Fun K "is_name" "is_name" s_is_name f fd) (B : Bl mg) {aD t1 t2 t3 t4 t5 t6 t7 t8 : Addr} (De : Deeds K w mg aD t1 t2 t3 t4 t5 t6 t7 t8) (C_DEED_PARTS : mg "DEED_PARTS" = some (.ref aD)) {t_MOST_LETTERS : Tok} (C_MOST_LETTERS : mg "MOST_LETTERS" = some (.int 8 t_MOST_LETTERS)) (G_is_field : FnH P w K mg base 1 "is_field" ["thing"] (spLookD fieldY)) : FnOk P w K mg base CX0 2 f fd ["thing"] (spLookD fieldY) := by
  refine F.ok sc_is_name (fun vs H Q E h => ?_) (fun cdv A outer s H vs Q E hr h => ?_)
  · obtain ⟨v, d, rfl, hd, q⟩ := h
    rfl
  obtain ⟨v, d, rfl, hd, q⟩ := h
  refine ⟨_, (pss_one (ps_ret (pe_fn G_is_field (hr.mono (by decide)) rfl (pa_cons (pv 0) pa_nil)))), ?_⟩
  exact ⟨_, rfl, v, d, rfl, hd, q⟩
theorem sc_is_from_nought : FnScope ["thing"] ["thing"] (defScope s_is_from_nought) := ⟨rfl, rfl, rfl, by decide +kernel, rfl, by decide +kernel, by decide +kernel⟩
theorem ok_is_from_nought {f : Addr} {fd : FuncData} (F : Fun K "is_from_nought" "is_from_nought" s_is_from_nought f fd) (B : Bl mg) {aD t1 t2 t3 t4 t5 t6 t7 t8 : Addr} (De : Deeds K w mg aD t1 t2 t3 t4 t5 t6 t7 t8) (C_DEED_PARTS : mg "DEED_PARTS" = some (.ref aD)) {t_MOST_LETTERS : Tok} (C_MOST_LETTERS : mg "MOST_LETTERS" = some (.int 8 t_MOST_LETTERS)) (G_is_whole : FnH P w K mg base 1 "is_whole" ["thing"] (spWhole K)) : FnOk P w K mg base CX0 2 f fd ["thing"] (spLookD natY) := by
  refine F.ok sc_is_from_nought (fun vs H Q E h => ?_) (fun cdv A outer s H vs Q E hr h => ?_)
  · obtain ⟨v, d, rfl, hd, q⟩ := h
    rfl
  obtain ⟨v, d, rfl, hd, q⟩ := h
  refine ⟨_, (pss_one (ps_ret (pe_and (pe_fn G_is_whole (hr.mono (by decide)) rfl (pa_cons (pv 0) pa_nil)) (pe_one (pe_cmpR op_ge (pv 0) pe_int (nomark _)))))), ?_⟩
  refine ⟨_, rfl, v, _, rfl, hd.ty, _, rfl, ?_⟩
  rw [wholeY_ty]
  cases d with
  | int i =>
    rw [RepY] at hd
    subst hd
    exact iteT ⟨_, rfl, _, _, rfl, rfl, q _ (Same.refl _)⟩
  | _ => exact iteF (q _ (Same.refl _))
theorem sc_is_part : FnScope ["kind", "thing"] ["kind", "thing"] (defScope s_is_part) := ⟨rfl, rfl, rfl, by decide +kernel, rfl, by decide +kernel, by decide +kernel⟩
theorem ok_is_part {f : Addr} {fd : FuncData} (F : Fun K "is_part" "is_part" s_is_part f fd) (B : Bl mg) {aD t1 t2 t3 t4 t5 t6 t7 t8 : Addr} (De : Deeds K w mg aD t1 t2 t3 t4 t5 t6 t7 t8) (C_DEED_PARTS : mg "DEED_PARTS" = some (.ref aD)) {t_MOST_LETTERS : Tok} (C_MOST_LETTERS : mg "MOST_LETTERS" = some (.int 8 t_MOST_LETTERS)) (G_is_name : FnH P w K mg base 2 "is_name" ["thing"] (spLookD fieldY)) (G_is_from_nought : FnH P w K mg base 2 "is_from_nought" ["thing"] (spLookD natY)) (G_is_wish : FnH P w K mg base 5 "is_wish" ["thing"] (spLookD wishY)) (G_is_piece : FnH P w K mg base 3 "is_piece" ["thing"] (spLookD pieceY)) : FnOk P w K mg base CX0 6 f fd ["kind", "thing"] (spPartK) := by
  refine F.ok sc_is_part (fun vs H Q E h => ?_) (fun cdv A outer s H vs Q E hr h => ?_)
  · obtain ⟨k, v, d, rfl, hd, q⟩ := h
    rfl
  obtain ⟨k, v, d, rfl, hd, q⟩ := h
  refine ⟨_, (pss_cons (ps_if (pt_cmpR op_eq (pv 0) pe_str (nomark _)) (pss_one (ps_ret (pe_fn G_is_name (hr.mono (by decide)) rfl (pa_cons (pv 1) pa_nil)))) pss_nil)
      (pss_cons (ps_if (pt_cmpR op_eq (pv 0) pe_str (nomark _)) (pss_one (ps_ret (pe_fn G_is_from_nought (hr.mono (by decide)) rfl (pa_cons (pv 1) pa_nil)))) pss_nil)
      (pss_one (ps_ret (pe_ifExp (pt_cmpR op_eq (pv 0) pe_str (nomark _)) (pe_fn G_is_wish (hr.mono (by decide)) rfl (pa_cons (pv 1) pa_nil)) (pe_fn G_is_piece (hr.mono (by decide)) rfl (pa_cons (pv 1) pa_nil))))))), ?_⟩
  have qf : ∀ b, kindY k d = b → ∀ H', Same H H' → Q (.bl b) H' := fun b e H' s => by rw [← e]; exact q H' s
  refine ⟨_, rfl, rfl, _, rfl, ?_⟩
  by_cases h1 : k = "hand"
  · rw [decide_eq_true (by rw [h1])]
    exact iteT ⟨_, rfl, v, d, rfl, hd, fun H' s => qf _ (by unfold kindY; rw [if_pos h1]) H' s⟩
  rw [decide_eq_false (fun z => h1 (by injection z))]
  refine iteF ⟨_, rfl, rfl, _, rfl, ?_⟩
  by_cases h2 : k = "post"
  · rw [decide_eq_true (by rw [h2])]
    exact iteT ⟨_, rfl, v, d, rfl, hd, fun H' s => qf _ (by unfold kindY; rw [if_neg h1, if_pos h2]) H' s⟩
  rw [decide_eq_false (fun z => h2 (by injection z))]
  refine iteF ⟨_, rfl, rfl, _, rfl, ?_⟩
  by_cases h3 : k = "wish"
  · rw [decide_eq_true (by rw [h3])]
    exact iteT ⟨_, rfl, v, d, rfl, hd, fun H' s => qf _ (by unfold kindY; rw [if_neg h1, if_neg h2, if_pos h3]) H' s⟩
  rw [decide_eq_false (fun z => h3 (by injection z))]
  exact iteF ⟨_, rfl, v, d, rfl, hd, fun H' s => qf _ (by unfold kindY; rw [if_neg h1, if_neg h2, if_neg h3]) H' s⟩
theorem sc_is_deed : FnScope ["thing", "kinds"] ["thing"] (defScope s_is_deed) := ⟨rfl, rfl, rfl, by decide +kernel, rfl, by decide +kernel, by decide +kernel⟩
theorem ok_is_deed {f : Addr} {fd : FuncData} (F : Fun K "is_deed" "is_deed" s_is_deed f fd) (B : Bl mg) {aD t1 t2 t3 t4 t5 t6 t7 t8 : Addr} (De : Deeds K w mg aD t1 t2 t3 t4 t5 t6 t7 t8) (C_DEED_PARTS : mg "DEED_PARTS" = some (.ref aD)) {t_MOST_LETTERS : Tok} (C_MOST_LETTERS : mg "MOST_LETTERS" = some (.int 8 t_MOST_LETTERS)) (G_is_part : FnH P w K mg base 6 "is_part" ["kind", "thing"] (spPartK)) : FnOk P w K mg base CX0 7 f fd ["thing"] (spLookD deedY) := by
  refine F.ok sc_is_deed (fun vs H Q E h => ?_) (fun cdv A outer s H vs Q E hr h => ?_)
  · obtain ⟨v, d, rfl, hd, q⟩ := h
    rfl
  obtain ⟨v, d, rfl, hd, q⟩ := h
  refine ⟨_, (pss_cons (ps_if (PW.pt (pw_or (pt_not (pt_val (pe_callB (call_isinst (n := "")) rfl B.isinstance_ bt_isinstance (pa_cons (pv 0) (pa_cons (pe_bltn (v := .ty "tuple") rfl B.tuple_ bt_tuple rfl) pa_nil))))) (pw_or (pt_not (pt_truth (pv 0) (fun _ => rfl))) (pw_or1 (pt_not (pt_val (pe_callB (call_isinst (n := "")) rfl B.isinstance_ bt_isinstance (pa_cons (pe_ix ix_tup (pv 0) pe_int (fun _ _ => rfl)) (pa_cons (pe_bltn (v := .ty "str") rfl B.str_ bt_str rfl) pa_nil))))))))) (pss_one (ps_ret pe_bl)) pss_nil)
      (pss_cons (ps_if (pt_cmpR op_notInTop (pe_ix ix_tup (pv 0) pe_int (fun _ _ => rfl)) (pe_glob (v := .ref _) rfl C_DEED_PARTS rfl) (by with_unfolding_all rfl)) (pss_one (ps_ret pe_bl)) pss_nil)
      (pss_cons (ps_set (i := 1) sc_is_deed.nd rfl (Or.inl rfl) (pe_ix ix_top (pe_glob (v := .ref _) rfl C_DEED_PARTS rfl) (pe_ix ix_tup (pv 0) pe_int (fun _ _ => rfl)) (fun _ _ => rfl)))
      (pss_one (ps_ret (pe_and (pe_cmpR op_eq (pe_callB call_len_seq rfl B.len_ bt_len (pa_cons (pv 0) pa_nil)) (pe_op op_add pe_int (pe_callB call_len_seq rfl B.len_ bt_len (pa_cons (pv 1) pa_nil))) (nomark _)) (pe_one (pe_callB (call_all rfl) rfl B.all_ bt_all (pa_cons (pe_lc (N' := ["kind", "part"]) (js := [none, none]) rfl (capOk (N := ["thing", "kinds"]) (outer := defScope s_is_deed) (by decide +kernel)) (pi_zip rfl B.zip_ (pa_cons (pv 1) (pa_cons (pe_slice sl_tupW (pv 0) (po_some pe_int) po_none) pa_nil))) (fun _ _ _ _ _ => (pg_tupK K rfl (n := 2) rfl (pgs_cons (pg_name (i := 0) (show List.Nodup (["kind", "part"] : List Str) by decide +kernel) rfl (Or.inl rfl)) (pgs_cons (pg_name (i := 1) (show List.Nodup (["kind", "part"] : List Str) by decide +kernel) rfl (Or.inl rfl)) pgs_nil)))) (fun _ _ _ _ _ => pifs_nil) (fun _ _ _ _ _ => (pe_fn G_is_part (hr.mono (by decide)) rfl (pa_cons (pv 0) (pa_cons (pv 1) pa_nil))))) pa_nil))))))))), ?_⟩
  cases d with
  | tup ds =>
    rw [RepY] at hd
    obtain ⟨a, xs, rfl, ha, h9, hx⟩ := hd
    have lx := hx.length
    refine ⟨_, rfl, _, "tuple", "tuple", true, rfl, .tup ha, rfl, _, rfl, iteF ⟨_, rfl, _, .inr (.inl ⟨xs, SqT.of ha, rfl⟩), ?_⟩⟩
    cases ds with
    | nil =>
      cases xs with
      | nil => exact iteT (q _ (Same.refl _))
      | cons x xr => cases lx
    | cons d0 r =>
      cases xs with
      | nil => cases lx
      | cons x xr =>
        have hx0 := hx
        rw [RepYs] at hx
        obtain ⟨_, _, e, r0, rr⟩ := hx
        injection e with e e'
        subst e e'
        refine iteF ⟨_, rfl, a, _, 0, _, rfl, rfl, SqT.of ha, at0, _, _, "str", _, rfl, r0.ty, isStr_k K d0, _, rfl, ?_⟩
        cases hs0 : isStr d0 with
        | false =>
          refine iteT ?_
          rw [← deed_nil (r := r) hs0]
          exact q _ (Same.refl _)
        | true =>
          obtain ⟨w', rfl⟩ := isStr_form hs0
          rw [RepY] at r0
          obtain ⟨rfl, _⟩ := r0
          refine iteF ⟨_, rfl, a, _, 0, _, rfl, rfl, SqT.of ha, at0, w', aD, _, rfl, rfl, De.d, _, rfl, ?_⟩
          have hl := De.look w'
          have qd : deedY (.tup (.str w' :: r)) = match kindsOf w' with
            | none => false
            | some ks => deedR ks r := rfl
          rw [qd] at q
          cases hk : kindsOf w' with
          | none =>
            rw [hk] at hl q
            dsimp only at hl q
            rw [hl]
            exact iteT (q _ (Same.refl _))
          | some ks =>
            have lk := kinds_len hk
            rw [hk] at hl q
            dsimp only at q
            obtain ⟨t, e1, tk⟩ := hl
            rw [e1]
            have tK : ∀ H', SqT K H' t (ks.map V.str) := fun H' => .inr tk
            refine iteF ⟨_, rfl, a, _, 0, _, rfl, rfl, SqT.of ha, at0, aD, w', _, _, rfl, rfl, De.d, e1, ?_⟩
            refine ⟨_, rfl, a, _, rfl, .inr (SqT.of ha), _, rfl, t, _, rfl, .inr (tK _), _, _, rfl, rfl, rfl, _, rfl, ?_⟩
            have lr := rr.length
            have el : (V.int (((V.str w' :: xr).length : Nat) : Int) = V.int (1 + (((ks.map V.str).length : Nat) : Int))) ↔ r.length = ks.length := by
              rw [List.length_map, List.length_cons]
              constructor
              · intro z; injection z with z; omega
              · intro z; rw [lr, z]; congr 1; omega
            by_cases hlen : r.length = ks.length
            · rw [decide_eq_true (el.mpr hlen)]
              refine iteT ⟨_, rfl, _, rfl, _, rfl, ?_⟩
              dsimp only [tNoPart]
              refine sl_tail (SqT.of ha) fun p1 H1 s1 q1 => ?_
              refine ⟨t, p1, rfl, ⟨_, tK _⟩, ⟨_, q1⟩, fun p hp' => ?_⟩
              have ed : (V.str w' :: xr).drop 1 = xr := rfl
              rw [ed] at q1
              refine lc_zip (n := ks.length) (xs := ks.map V.str) (ys := xr) (by rw [List.length_map]; exact Nat.le_refl _) (by omega) (.inl (by rw [List.length_map]; exact Nat.le_refl _)) (fun i σ' ys H' => (∃ v w, σ' = [v, w]) ∧ Same H1 H' ∧ H' p = some (.lst ys) ∧ ys = ((List.range i).map (fun i => kindY (ks.getD i "") (r.getD i .non))).map V.bl) ⟨⟨none, none, rfl⟩, same_new hp' _, upd_same, rfl⟩ ?_ ?_ ?_
              · rintro i σ' zs H' hi ⟨_, s, h1, h3⟩
                refine ⟨tK _, s.seqT q1, h1, ?_⟩
                rw [h3, List.length_map, List.length_map, List.length_range]
                exact small1000 (by omega)
              · rintro i x y σ' zs H' u N hx hy hu ⟨⟨v, w'', rfl⟩, s, h1, h3⟩ hN
                rw [List.getElem?_map] at hx
                cases ek : ks[i]? with
                | none => rw [ek] at hx; cases hx
                | some k =>
                  rw [ek] at hx
                  obtain rfl : V.str k = x := Option.some.inj hx
                  obtain ⟨d1, e1', r1⟩ := rr.get hy
                  have s3 := same_new hu (.tup [V.str k, y])
                  have t3 := (s1.trans s).trans s3
                  refine ⟨u, _, rfl, SqT.of upd_same, rfl, _, _, rfl, _, _, rfl, rfl, ?_⟩
                  refine ⟨_, rfl, _, rfl, k, y, d1, rfl, RepY.same t3 d1 r1, fun H5 s5 => ?_⟩
                  refine ⟨s5 _ _ (s3 _ _ h1), hN _ _ _ ⟨⟨_, _, rfl⟩, upd_off ((s.trans s3).trans s5) hp', upd_same, ?_⟩⟩
                  rw [h3, List.range_succ, List.map_append, List.map_append]
                  congr 1
                  show [V.bl (kindY k d1)] = [V.bl (kindY (ks.getD i "") (r.getD i .non))]
                  rw [List.getD_eq_getElem?_getD, List.getD_eq_getElem?_getD, ek, e1']
                  rfl
              · rintro σ' zs H' ⟨_, s, h1, h3⟩
                refine ⟨p, _, rfl, SqL.of (by rw [h1, h3]), ?_⟩
                have e5 : deedR ks r = ((List.range ks.length).map fun i => kindY (ks.getD i "") (r.getD i .non)).all id := by unfold deedR; rw [decide_eq_true hlen, Bool.true_and]
                rw [← e5]
                exact q H' (s1.trans s)
            · rw [decide_eq_false (fun z => hlen (el.mp z))]
              have e5 : deedR ks r = false := by unfold deedR; rw [decide_eq_false hlen]; rfl
              refine iteF ?_
              rw [← e5]
              exact q _ (Same.refl _)
  | _ => exact ⟨_, rfl, _, _, "tuple", false, rfl, hd.ty, rfl, _, rfl, iteT (q _ (Same.refl _))⟩
theorem sc_law_bag : FnScope ["script", "great", "lesser", "stir", "cell"] ["script"] (defScope s_law_bag) := ⟨rfl, rfl, rfl, by decide +kernel, rfl, by decide +kernel, by decide +kernel⟩
theorem ok_law_bag {f : Addr} {fd : FuncData} (F : Fun K "_law_bag" "_law_bag" s_law_bag f fd) (B : Bl mg) {aD t1 t2 t3 t4 t5 t6 t7 t8 : Addr} (De : Deeds K w mg aD t1 t2 t3 t4 t5 t6 t7 t8) (C_DEED_PARTS : mg "DEED_PARTS" = some (.ref aD)) {t_MOST_LETTERS : Tok} (C_MOST_LETTERS : mg "MOST_LETTERS" = some (.int 8 t_MOST_LETTERS))  : FnOk P w K mg base CX0 1 f fd ["script"] (spBag K) := by
  refine F.ok sc_law_bag (fun vs H Q E h => ?_) (fun cdv A outer s H vs Q E hr h => ?_)
  · obtain ⟨a, ns, rfl, hS, h63, q⟩ := h
    rfl
  obtain ⟨a, ns, rfl, hS, h63, q⟩ := h
  refine ⟨_, (pss_cons (ps_setLC (N' := ["cell"]) (js := [none]) (i := 1) sc_law_bag.nd rfl (Or.inl rfl) rfl (capOk (N := ["script", "great", "lesser", "stir", "cell"]) (outer := defScope s_law_bag) (by decide +kernel)) (pi_list (pe_slice sl_list (pv 0) po_none (po_some pe_int))) (fun _ _ _ _ _ => (pg_name (i := 0) (show List.Nodup (["cell"] : List Str) by decide +kernel) rfl (Or.inl rfl))) (fun _ _ _ _ _ => pifs_one (pt_cmpR op_ge (pv 0) (pe_op op_powB pe_int pe_int) (nomark _))) (fun _ _ _ _ _ => (pe_op op_sub (pv 0) (pe_op op_powB pe_int pe_int))))
      (pss_cons (ps_setLC (N' := ["cell"]) (js := [none]) (i := 2) sc_law_bag.nd rfl (Or.inl rfl) rfl (capOk (N := ["script", "great", "lesser", "stir", "cell"]) (outer := defScope s_law_bag) (by decide +kernel)) (pi_list (pe_slice sl_list (pv 0) po_none (po_some pe_int))) (fun _ _ _ _ _ => (pg_name (i := 0) (show List.Nodup (["cell"] : List Str) by decide +kernel) rfl (Or.inl rfl))) (fun _ _ _ _ _ => pifs_one (pt_cmpR op_lt (pv 0) (pe_op op_powB pe_int pe_int) (nomark _))) (fun _ _ _ _ _ => (pe_op op_mod (pv 0) (pe_op op_powB pe_int pe_int))))
      (pss_cons (ps_set (i := 3) sc_law_bag.nd rfl (Or.inl rfl) pe_int)
      (pss_cons (ps_for PassesOwn.never rfl (pi_list (pv 2)) (pg_name (i := 4) sc_law_bag.nd rfl (Or.inl rfl)) (pss_one (ps_set (i := 3) sc_law_bag.nd rfl (Or.inl rfl) (pe_op op_mod (pe_op op_powB (pe_op op_add (pe_op op_add (pv 3) (pv 4)) pe_int) pe_int) pe_int))))
      (pss_one (ps_ret (pe_lst (pa_cons (pv 1) (pa_cons (pe_op op_cat (pv 2) (pe_lst (pa_cons pe_int pa_nil))) (pa_cons pe_int (pa_cons (pv 3) pa_nil))))))))))), ?_⟩
  have e18 : (10 : Int) ^ (18 : Int).toNat = 10 ^ 18 := by decide
  have cut : cutV (ns.map V.int) none (some 63) = ns.map V.int := by
    unfold cutV
    rw [show HT.sIx (ns.map V.int).length 0 none = 0 from rfl, show HT.sIx (ns.map V.int).length (ns.map V.int).length (some 63) = min 63 (ns.map V.int).length from HT.sIx_nat _ _ 63]
    rw [List.drop_zero]
    exact List.take_of_length_le (by rw [List.length_map]; omega)
  refine ⟨_, rfl, _, rfl, a, _, rfl, hS, fun p1 hp1 => ⟨p1, rfl, ⟨_, SqL.of upd_same⟩, fun p hp => ?_⟩⟩
  refine lc_ints (cap := []) ns (fun n => n - 10 ^ (18 : Int).toNat) (fun n => decide ((10 : Int) ^ (18 : Int).toNat ≤ n)) (by omega) (SqL.of (by rw [upd_same, cut])) hp ?_ ?_ ?_ ?_
  · rfl
  · exact fun n H' R s r => ⟨_, rfl, _, _, rfl, rfl, pw10 (by decide) (by decide), _, _, rfl, rfl, _, rfl, r⟩
  · exact fun n H' R s r => ⟨_, rfl, _, _, rfl, rfl, pw10 (by decide) (by decide), _, _, rfl, rfl, r⟩
  intro H1 s1 h1
  have t1 : Same H H1 := (same_new hp1 _).trans s1
  have pn1 : H p = none := (same_new hp1 _).free hp
  refine ⟨_, rfl, _, rfl, a, _, rfl, t1.seq hS, fun p2 hp2 => ⟨p2, rfl, ⟨_, SqL.of upd_same⟩, fun p' hp' => ?_⟩⟩
  refine lc_ints (cap := []) ns (fun n => n % 10 ^ (18 : Int).toNat) (fun n => decide (n < (10 : Int) ^ (18 : Int).toNat)) (by omega) (SqL.of (by rw [upd_same, cut])) hp' ?_ ?_ ?_ ?_
  · rfl
  · exact fun n H' R s r => ⟨_, rfl, _, _, rfl, rfl, pw10 (by decide) (by decide), _, _, rfl, rfl, _, rfl, r⟩
  · exact fun n H' R s r => ⟨_, rfl, _, _, rfl, rfl, pw10 (by decide) (by decide), _, _, rfl, rfl, (by show (0 : Int) < 10 ^ (18 : Int).toNat; decide), r⟩
  intro H2 s2 h2
  have t12 : Same H1 H2 := (same_new hp2 _).trans s2
  have t2 : Same H H2 := t1.trans t12
  have g2 := t12 _ _ h1
  have lb : ∀ x ∈ (ns.filter fun n => decide (n < (10 : Int) ^ (18 : Int).toNat)).map (fun n => n % 10 ^ (18 : Int).toNat), 0 ≤ x ∧ x < 10 ^ 18 := fun x hx => by
    obtain ⟨y, _, rfl⟩ := List.mem_map.mp hx
    rw [e18]
    exact ⟨Int.emod_nonneg _ (by decide), Int.emod_lt_of_pos _ (by decide)⟩
  have ll := List.length_filter_le (fun n => decide (n < (10 : Int) ^ (18 : Int).toNat)) ns
  have gg := List.length_filter_le (fun n => decide ((10 : Int) ^ (18 : Int).toNat ≤ n)) ns
  generalize hls : (ns.filter fun n => decide (n < (10 : Int) ^ (18 : Int).toNat)).map (fun n => n % 10 ^ (18 : Int).toNat) = ls at *
  have lz : ls.length ≤ 63 := by rw [← hls, List.length_map]; omega
  have gz : ((ns.filter fun n => decide ((10 : Int) ^ (18 : Int).toNat ≤ n)).map fun n => n - 10 ^ (18 : Int).toNat).length ≤ 63 := by rw [List.length_map]; omega
  refine ⟨_, rfl, p', rfl, ⟨_, SqL.of h2⟩, for_list (K := K) (a := p') (xs := ls.map V.int) (fun i σ H' => ∃ (st : Int) (x4 : Option V), σ = [some (.ref a), some (.ref p), some (.ref p'), some (.int st), x4] ∧ H' = H2 ∧ 0 ≤ st ∧ st < bigM) ⟨5, none, rfl, rfl, by decide, by decide⟩ (fun i σ H' _ ⟨_, _, _, e, _⟩ => by rw [e]; exact SqL.of h2) ?_ ?_⟩
  · rintro i x σ H' hx ⟨st, x4, rfl, rfl, z0, z1⟩
    rw [List.getElem?_map] at hx
    cases hn : ls[i]? with
    | none => rw [hn] at hx; cases hx
    | some y =>
      rw [hn] at hx
      obtain rfl : V.int y = x := Option.some.inj hx
      obtain ⟨y0, y1⟩ := lb y (List.mem_of_getElem? hn)
      have big : (st + y + 1).natAbs < 2 ^ 1000 := by
        have : (st + y + 1).natAbs < 2 ^ 100 := by unfold bigM at z1; omega
        exact Nat.lt_of_lt_of_le this (by decide)
      refine ⟨_, rfl, _, rfl, _, _, rfl, rfl, _, _, rfl, rfl, _, _, rfl, rfl, ⟨by decide, by decide, big⟩, _, _, rfl, rfl, (by show (0 : Int) < 618970019642690137449562111; decide), _, _, rfl, rfl, Int.emod_nonneg _ (by decide), Int.emod_lt_of_pos _ (by decide)⟩
  · rintro σ H' ⟨st, x4, rfl, rfl, z0, z1⟩
    refine ⟨_, rfl, _, rfl, (by show 1 ≤ sizeLine; decide), fun p3 hp3 => ?_⟩
    have s3 := same_new hp3 (.lst [V.int 0])
    refine ⟨p', p3, _, _, rfl, rfl, s3 _ _ h2, upd_same, (by rw [List.length_map, List.length_singleton]; exact small (by omega)), fun p4 hp4 => ?_⟩
    have s4 := same_new hp4 (.lst (ls.map V.int ++ [V.int 0]))
    refine ⟨_, rfl, (by show 4 ≤ sizeLine; decide), fun p5 hp5 => ?_⟩
    have s5 := same_new hp5 (.lst [V.ref p, V.ref p4, V.int 0, V.int st])
    have t5 : Same H' _ := s3.trans (s4.trans s5)
    have n4 : H' p4 = none := s3.free hp4
    refine q p5 p p4 _ ⟨⟨_, ls ++ [0], 0, st, upd_same, t5 _ _ g2, ?_, gz, by simp, by rw [List.length_append]; simp; omega, ?_, by decide, by decide, z0, z1⟩, ?_⟩ (t2.trans t5) (t2.free ((s3.trans s4).free hp5)) pn1
    · refine s5 _ _ ?_
      rw [upd_same, List.map_append]
      rfl
    · intro x hx
      rcases List.mem_append.mp hx with z | z
      · exact lb x z
      · rw [List.mem_singleton.mp z]; exact ⟨by decide, by decide⟩
    · exact ne_of_none g2 n4
theorem sc_law_draw : FnScope ["bag", "many", "found", "cell"] ["bag", "many"] (defScope s_law_draw) := ⟨rfl, rfl, rfl, by decide +kernel, rfl, by decide +kernel, by decide +kernel⟩
theorem ok_law_draw {f : Addr} {fd : FuncData} (F : Fun K "_law_draw" "_law_draw" s_law_draw f fd) (B : Bl mg) {aD t1 t2 t3 t4 t5 t6 t7 t8 : Addr} (De : Deeds K w mg aD t1 t2 t3 t4 t5 t6 t7 t8) (C_DEED_PARTS : mg "DEED_PARTS" = some (.ref aD)) {t_MOST_LETTERS : Tok} (C_MOST_LETTERS : mg "MOST_LETTERS" = some (.int 8 t_MOST_LETTERS))  : FnOk P w K mg base CX0 1 f fd ["bag", "many"] (spDraw) := by
  refine F.ok sc_law_draw (fun vs H Q E h => ?_) (fun cdv A outer s H vs Q E hr h => ?_)
  · obtain ⟨b, g, l, n, many, rfl, Bg, hn, hm, hm2, q⟩ := h
    rfl
  obtain ⟨b, g, l, n, many, rfl, Bg, hn, hm, hm2, q⟩ := h
  refine ⟨_, (pss_cons (ps_while PassesOwn.never (PW.pt (pw_and (pt_cmpR (op_neD (roomD_of hr)) (pe_ix ix_list (pv 0) pe_int (fun _ _ => rfl)) (pe_lst pa_nil) (nomark _)) (pw_and1 (pt_cmpR op_eq (pe_ix ix_list (pe_ix ix_list (pv 0) pe_int (fun _ _ => rfl)) pe_int (fun _ _ => rfl)) pe_int (nomark _))))) (pss_one (ps_expr (pe_bm PySem.F.plainAttrs_list PySem.F.slot_list_pop PySem.F.type_list_pop mt_popAt (pe_ix ix_list (pv 0) pe_int (fun _ _ => rfl)) (pa_cons pe_int pa_nil)))))
      (pss_cons (ps_if (pt_cmpR (op_neD (roomD_of hr)) (pe_ix ix_list (pv 0) pe_int (fun _ _ => rfl)) (pe_lst pa_nil) (nomark _)) (pss_cons (ps_set (i := 2) sc_law_draw.nd rfl (Or.inl rfl) (pe_op op_mod (pe_ix ix_list (pe_ix ix_list (pv 0) pe_int (fun _ _ => rfl)) pe_int (fun _ _ => rfl)) (pv 1)))
      (pss_cons (ps_asg (pe_op op_fdivW (pe_ix ix_list (pe_ix ix_list (pv 0) pe_int (fun _ _ => rfl)) pe_int (fun _ _ => rfl)) (pv 1)) (pg_sub (pe_ix ix_list (pv 0) pe_int (fun _ _ => rfl)) pe_int set_list))
      (pss_one (ps_ret (pv 2))))) pss_nil)
      (pss_cons (ps_asg (pe_op op_add (pe_ix ix_list (pv 0) pe_int (fun _ _ => rfl)) pe_int) (pg_sub (pv 0) pe_int set_list))
      (pss_cons (ps_set (i := 3) sc_law_draw.nd rfl (Or.inl rfl) (pe_ix ix_list (pe_ix ix_list (pv 0) pe_int (fun _ _ => rfl)) (pe_op op_mod (pe_ix ix_list (pv 0) pe_int (fun _ _ => rfl)) (pe_callB call_len_seq rfl B.len_ bt_len (pa_cons (pe_ix ix_list (pv 0) pe_int (fun _ _ => rfl)) pa_nil))) (fun _ _ => rfl)))
      (pss_cons (ps_asg (pe_op op_mod (pe_op op_powB (pe_op op_add (pe_ix ix_list (pv 0) pe_int (fun _ _ => rfl)) (pe_op op_mul (pe_op op_add (pv 3) (pe_op op_mul pe_int (pe_ix ix_list (pv 0) pe_int (fun _ _ => rfl)))) (pe_op op_add (pe_op op_mul pe_int (pe_ix ix_list (pv 0) pe_int (fun _ _ => rfl))) pe_int))) pe_int) pe_int) (pg_sub (pv 0) pe_int set_list))
      (pss_one (ps_ret (pe_op op_mod (pe_op op_fdivW (pe_ix ix_list (pv 0) pe_int (fun _ _ => rfl)) pe_int) (pv 1))))))))), ?_⟩
  refine while_then (fun m σ H1 => σ = [some (.ref b), some (.int many), none, none] ∧ Bag H1 b g l n ∧ SameB b g H H1 ∧ ∃ gs : List Int, H1 g = some (.lst (gs.map V.int)) ∧ gs.length = m)
    (fun σ H1 => σ = [some (.ref b), some (.int many), none, none] ∧ Bag H1 b g l n ∧ SameB b g H H1) ?_ ?_ ?_
  · obtain ⟨gs, ls, c, st, e1, e2, _⟩ := Bg.ex
    exact ⟨_, rfl, Bg, SameB.refl _ _ _, gs, e2, rfl⟩
  · rintro m σ H1 Z ⟨rfl, B1, S1, gs, e2, rfl⟩ hZ
    obtain ⟨gs', ls, c, st, e1, e2', e3, z1, z2, z3, z4, z5, z6, z7, z8⟩ := id B1.ex
    obtain rfl : gs = gs' := by
      rw [e2] at e2'
      injection e2' with e2'
      injection e2' with e2'
      exact (List.map_inj_right (fun _ _ z => by injection z)).mp e2'
    refine ⟨_, rfl, b, _, 0, _, rfl, rfl, SqL.of e1, rfl, sz0, fun p hp => ?_⟩
    have s1 := same_new hp (.lst [])
    refine neNil (SqL.of (s1 _ _ e2)) (SqL.of upd_same) ⟨_, rfl, ?_⟩
    cases gs with
    | nil => exact iteF (iteF (hZ _ _ ⟨rfl, B1.same s1, S1.trans s1.sameB⟩))
    | cons x r =>
      refine iteT ?_
      refine ⟨_, rfl, b, _, 0, _, rfl, rfl, SqL.of (s1 _ _ e1), rfl, g, _, 0, _, rfl, rfl, SqL.of (s1 _ _ e2), at0, rfl, _, rfl, ?_⟩
      refine ite2 (fun hx => ?_) (fun hx => ?_)
      · refine ⟨fun σ H2 => σ = [some (.ref b), some (.int many), none, none] ∧ Bag H2 b g l n ∧ SameB b g H H2 ∧ ∃ gs : List Int, H2 g = some (.lst (gs.map V.int)) ∧ gs.length = r.length, fun σ H2 z => ⟨r.length, Nat.lt_succ_self _, z⟩, ?_⟩
        refine ⟨_, rfl, b, _, 0, _, rfl, rfl, SqL.of (s1 _ _ e1), rfl, .inl ⟨rfl, _, SqL.of (s1 _ _ e2)⟩, g, _, 0, 0, _, rfl, rfl, s1 _ _ e2, by decide, by decide, (ixN_seq (ix0 (x := V.int x) (r := r.map V.int))).1, rfl, ?_⟩
        have e4 : (upd (upd H1 p (.lst [])) g (.lst (((x :: r).map V.int).eraseIdx 0))) g = some (.lst (r.map V.int)) := upd_same
        refine ⟨rfl, ⟨⟨r, ls, c, st, ?_, e4, ?_, ?_, z2, z3, z4, z5, z6, z7, z8⟩, B1.gl⟩, ?_, r, e4, rfl⟩
        · rw [upd_ne B1.bg]; exact s1 _ _ e1
        · rw [upd_ne (Ne.symm B1.gl)]; exact s1 _ _ e3
        · simp only [List.length_cons] at z1; omega
        · intro a o h1 h2 h3
          rw [upd_ne h3]
          exact s1 _ _ (S1 a o h1 h2 h3)
      · exact hZ _ _ ⟨rfl, B1.same s1, S1.trans s1.sameB⟩
  · rintro σ H1 ⟨rfl, B1, S1⟩
    obtain ⟨gs, ls, c, st, e1, e2, e3, z1, z2, z3, z4, z5, z6, z7, z8⟩ := id B1.ex
    refine ⟨_, rfl, b, _, 0, _, rfl, rfl, SqL.of e1, rfl, sz0, fun p hp => ?_⟩
    have s1 := same_new hp (.lst [])
    have B2 := B1.same s1
    have e1' := s1 _ _ e1
    have e2' := s1 _ _ e2
    have e3' := s1 _ _ e3
    refine neNil (SqL.of e2') (SqL.of upd_same) ⟨_, rfl, ?_⟩
    generalize upd H1 p (.lst []) = H2 at *
    have S2 : SameB b g H H2 := S1.trans s1.sameB
    clear s1
    cases gs with
    | cons x r =>
      refine iteT ?_
      refine ⟨_, rfl, b, _, 0, _, rfl, rfl, SqL.of e1', rfl, g, _, 0, _, rfl, rfl, SqL.of e2', at0, _, rfl, _, _, rfl, rfl, hm, ?_⟩
      refine ⟨_, rfl, b, _, 0, _, rfl, rfl, SqL.of e1', rfl, g, _, 0, _, rfl, rfl, SqL.of e2', at0, _, rfl, _, _, rfl, rfl, ⟨hm, Int.lt_of_lt_of_le hm2 (by decide)⟩, ?_⟩
      refine ⟨_, rfl, b, _, 0, _, rfl, rfl, SqL.of e1', rfl, g, _, 0, 0, rfl, rfl, e2', ix0, ?_⟩
      refine ⟨_, rfl, ?_⟩
      refine q _ _ (Int.emod_nonneg _ (by omega)) (Int.emod_lt_of_pos _ hm) ⟨⟨x / many :: r, ls, c, st, ?_, ?_, ?_, z1, z2, z3, z4, z5, by omega, z7, z8⟩, B1.gl⟩ ?_
      · rw [upd_ne B1.bg]; exact e1'
      · exact upd_same
      · rw [upd_ne (Ne.symm B1.gl)]; exact e3'
      · intro a o h1 h2 h3
        rw [upd_ne h3]
        exact S2 a o h1 h2 h3
    | nil =>
      refine iteF ?_
      -- bag[2] = bag[2] + 1
      refine ⟨_, rfl, b, _, 2, _, rfl, rfl, SqL.of e1', rfl, _, _, rfl, rfl, _, rfl, b, _, 2, 2, rfl, rfl, e1', rfl, ?_⟩
      have f1 : (upd H2 b (.lst ([V.ref g, V.ref l, V.int c, V.int st].set 2 (V.int (c + 1))))) b = some (.lst [V.ref g, V.ref l, V.int (c + 1), V.int st]) := upd_same
      have f2 : (upd H2 b (.lst ([V.ref g, V.ref l, V.int c, V.int st].set 2 (V.int (c + 1))))) g = some (.lst []) := by rw [upd_ne (Ne.symm B1.bg)]; exact e2'
      have f3 : (upd H2 b (.lst ([V.ref g, V.ref l, V.int c, V.int st].set 2 (V.int (c + 1))))) l = some (.lst (ls.map V.int)) := by rw [upd_ne (Ne.symm B1.bl)]; exact e3'
      have S3 : SameB b g H (upd H2 b (.lst ([V.ref g, V.ref l, V.int c, V.int st].set 2 (V.int (c + 1))))) := fun a o h1 h2 h3 => by rw [upd_ne h2]; exact S2 a o h1 h2 h3
      generalize upd H2 b (.lst ([V.ref g, V.ref l, V.int c, V.int st].set 2 (V.int (c + 1)))) = H3 at *
      -- cell = bag[1][bag[2] % len(bag[1])]
      have lpos : (0 : Int) < ((ls.map V.int).length : Int) := by rw [List.length_map]; omega
      have i0 := Int.emod_nonneg (c + 1) (Int.ne_of_gt lpos)
      have i1 := Int.emod_lt_of_pos (c + 1) lpos
      obtain ⟨v, hv, hvm⟩ := atInts (ls := ls) i0 (by rw [List.length_map] at i1 ⊢; exact i1)
      obtain ⟨v0, v1⟩ := z4 v hvm
      refine ⟨_, rfl, b, _, 1, _, rfl, rfl, SqL.of f1, rfl, _, rfl, b, _, 2, _, rfl, rfl, SqL.of f1, rfl, _, rfl, b, _, 1, _, rfl, rfl, SqL.of f1, rfl, l, _, rfl, .inl (SqL.of f3), _, _, rfl, rfl, lpos, l, _, _, _, rfl, rfl, SqL.of f3, hv, ?_⟩
      -- the stir
      have c1 : 0 ≤ c + 1 := by omega
      have c2 : c + 1 ≤ 2 ^ 41 := by omega
      refine ⟨_, rfl, b, _, 3, _, rfl, rfl, SqL.of f1, rfl, _, rfl, _, rfl, b, _, 2, _, rfl, rfl, SqL.of f1, rfl, _, _, rfl, rfl, .inl ⟨by decide, by decide⟩, _, _, rfl, rfl, _, rfl, b, _, 2, _, rfl, rfl, SqL.of f1, rfl, _, _, rfl, rfl, .inl ⟨by decide, by decide⟩, _, _, rfl, rfl, _, _, rfl, rfl, .inr ⟨by omega, by omega⟩, _, _, rfl, rfl, ?_⟩
      have big : (st + (v + 3 * (c + 1)) * (2 * (c + 1) + 1)).natAbs < 2 ^ 1000 := by
        have a1 : 0 ≤ v + 3 * (c + 1) := by omega
        have a2 : v + 3 * (c + 1) ≤ 2 ^ 61 := by omega
        have a3 : 0 ≤ 2 * (c + 1) + 1 := by omega
        have a4 : 2 * (c + 1) + 1 ≤ 2 ^ 43 := by omega
        have a5 : (v + 3 * (c + 1)) * (2 * (c + 1) + 1) ≤ 2 ^ 61 * 2 ^ 43 := Int.mul_le_mul a2 a4 a3 (by decide)
        have a6 : 0 ≤ (v + 3 * (c + 1)) * (2 * (c + 1) + 1) := Int.mul_nonneg a1 a3
        generalize (v + 3 * (c + 1)) * (2 * (c + 1) + 1) = y at *
        have a7 : st + y < 2 ^ 105 := by unfold bigM at z8; omega
        have a8 : (st + y).natAbs < 2 ^ 105 := by omega
        exact Nat.lt_of_lt_of_le a8 (by decide)
      refine ⟨_, _, rfl, rfl, ⟨by decide, by decide, big⟩, _, _, rfl, rfl, (by show (0 : Int) < 618970019642690137449562111; decide), ?_⟩
      dsimp only
      generalize (st + (v + 3 * (c + 1)) * (2 * (c + 1) + 1)) ^ (7 : Int).toNat = y
      refine ⟨_, rfl, b, _, 3, 3, rfl, rfl, f1, rfl, ?_⟩
      dsimp only
      have y0 := Int.emod_nonneg y (show (618970019642690137449562111 : Int) ≠ 0 by decide)
      have y1 := Int.emod_lt_of_pos y (show (0 : Int) < 618970019642690137449562111 by decide)
      generalize y % 618970019642690137449562111 = u at *
      have k1 : (upd H3 b (.lst ([V.ref g, V.ref l, V.int (c + 1), V.int st].set 3 (V.int u)))) b = some (.lst [V.ref g, V.ref l, V.int (c + 1), V.int u]) := upd_same
      refine ⟨_, rfl, b, _, 3, _, rfl, rfl, SqL.of k1, rfl, _, _, rfl, rfl, ⟨by decide, by decide⟩, _, rfl, _, _, rfl, rfl, hm, ?_⟩
      refine q _ _ (Int.emod_nonneg _ (by omega)) (Int.emod_lt_of_pos _ hm) ⟨⟨[], ls, c + 1, u, k1, ?_, ?_, z1, z2, z3, z4, c1, by omega, y0, y1⟩, B1.gl⟩ ?_
      · rw [upd_ne (Ne.symm B1.bg)]; exact f2
      · rw [upd_ne (Ne.symm B1.bl)]; exact f3
      · intro a o h1 h2 h3
        rw [upd_ne h2]
        exact S3 a o h1 h2 h3
theorem sc_law_number : FnScope ["bag", "choice", "number"] ["bag"] (defScope s_law_number) := ⟨rfl, rfl, rfl, by decide +kernel, rfl, by decide +kernel, by decide +kernel⟩
theorem ok_law_number {f : Addr} {fd : FuncData} (F : Fun K "_law_number" "_law_number" s_law_number f fd) (B : Bl mg) {aD t1 t2 t3 t4 t5 t6 t7 t8 : Addr} (De : Deeds K w mg aD t1 t2 t3 t4 t5 t6 t7 t8) (C_DEED_PARTS : mg "DEED_PARTS" = some (.ref aD)) {t_MOST_LETTERS : Tok} (C_MOST_LETTERS : mg "MOST_LETTERS" = some (.int 8 t_MOST_LETTERS)) (G_law_draw : FnH P w K mg base 1 "_law_draw" ["bag", "many"] (spDraw)) : FnOk P w K mg base CX0 2 f fd ["bag"] (spNum1) := by
  refine F.ok sc_law_number (fun vs H Q E h => ?_) (fun cdv A outer s H vs Q E hr h => ?_)
  · obtain ⟨b, g, l, n, rfl, Bg, hn, q⟩ := h
    rfl
  obtain ⟨b, g, l, n, rfl, Bg, hn, q⟩ := h
  refine ⟨_, (pss_cons (ps_set (i := 1) sc_law_number.nd rfl (Or.inl rfl) (pe_fn G_law_draw (hr.mono (by decide)) rfl (pa_cons (pv 0) (pa_cons pe_int pa_nil))))
      (pss_cons (ps_if (pt_cmpR op_eq (pv 1) pe_int (nomark _)) (pss_one (ps_ret (pe_op op_sub (pe_fn G_law_draw (hr.mono (by decide)) rfl (pa_cons (pv 0) (pa_cons pe_int pa_nil))) pe_int))) pss_nil)
      (pss_cons (ps_if (pt_cmpR op_eq (pv 1) pe_int (nomark _)) (pss_one (ps_ret (pe_op op_sub (pe_fn G_law_draw (hr.mono (by decide)) rfl (pa_cons (pv 0) (pa_cons pe_int pa_nil))) pe_int))) pss_nil)
      (pss_cons (ps_if (pt_cmpR op_eq (pv 1) pe_int (nomark _)) (pss_one (ps_ret (pe_op op_mul (pe_ix ix_list (pe_lst (pa_cons pe_int (pa_cons (pe_un un_neg pe_int) pa_nil))) (pe_fn G_law_draw (hr.mono (by decide)) rfl (pa_cons (pv 0) (pa_cons pe_int pa_nil))) (fun _ _ => rfl)) (pe_op op_sub (pe_op op_sub (pe_op op_powB pe_int pe_int) pe_int) (pe_fn G_law_draw (hr.mono (by decide)) rfl (pa_cons (pv 0) (pa_cons pe_int pa_nil))))))) pss_nil)
      (pss_cons (ps_set (i := 2) sc_law_number.nd rfl (Or.inl rfl) (pe_fn G_law_draw (hr.mono (by decide)) rfl (pa_cons (pv 0) (pa_cons (pe_ix ix_list (pe_lst (pa_cons (pe_op op_powB pe_int pe_int) (pa_cons (pe_op op_powB pe_int pe_int) pa_nil))) (pe_fn G_law_draw (hr.mono (by decide)) rfl (pa_cons (pv 0) (pa_cons pe_int pa_nil))) (fun _ _ => rfl)) pa_nil))))
      (pss_one (ps_ret (pe_ifExp (pt_cmpR op_eq (pv 1) pe_int (nomark _)) (pv 2) (pe_op op_sub pe_int (pv 2)))))))))), ?_⟩
  refine ⟨_, rfl, b, g, l, n, 5, rfl, Bg, by omega, by decide, by decide, fun c H1 c0 c1 B1 S1 => ?_⟩
  refine ⟨_, rfl, rfl, _, rfl, ite2 (fun _ => ?_) (fun _ => ?_)⟩
  · exact ⟨_, rfl, b, g, l, _, 9, rfl, B1, by omega, by decide, by decide, fun r H2 r0 r1 B2 S2 => ⟨_, _, rfl, rfl, q _ _ (by show -T40 < r - 4; unfold T40; omega) (by show r - 4 < T40; unfold T40; omega) (B2.mono (by omega)) (S1.trans S2)⟩⟩
  refine ⟨_, rfl, rfl, _, rfl, ite2 (fun _ => ?_) (fun _ => ?_)⟩
  · exact ⟨_, rfl, b, g, l, _, 2000, rfl, B1, by omega, by decide, by decide, fun r H2 r0 r1 B2 S2 => ⟨_, _, rfl, rfl, q _ _ (by show -T40 < r - 1000; unfold T40; omega) (by show r - 1000 < T40; unfold T40; omega) (B2.mono (by omega)) (S1.trans S2)⟩⟩
  refine ⟨_, rfl, rfl, _, rfl, ite2 (fun _ => ?_) (fun _ => ?_)⟩
  · refine ⟨_, rfl, (by show 2 ≤ sizeLine; decide), fun p hp => ?_⟩
    have s1 := same_new hp (.lst [V.int 1, V.int (-1)])
    obtain ⟨pb, pg, _⟩ := B1.free hp
    refine ⟨_, rfl, b, g, l, _, 2, rfl, B1.same s1, by omega, by decide, by decide, fun r H2 r0 r1 B2 S2 => ?_⟩
    have hr' : r = 0 ∨ r = 1 := by omega
    obtain ⟨v, hv, v0, v1⟩ : ∃ v, atI [V.int 1, V.int (-1)] r = some (.int v) ∧ -1 ≤ v ∧ v ≤ 1 ∧ (v = 1 ∨ v = -1) := by
      rcases hr' with rfl | rfl
      · exact ⟨1, rfl, by decide, by decide, .inl rfl⟩
      · exact ⟨-1, rfl, by decide, by decide, .inr rfl⟩
    refine ⟨p, _, _, _, rfl, rfl, SqL.of (S2 p _ upd_same pb pg), hv, _, _, rfl, rfl, pw10 (by decide) (by decide), _, _, rfl, rfl, _, rfl, b, g, l, _, 3, rfl, B2, by omega, by decide, by decide, fun r3 H3 r30 r31 B3 S3 => ?_⟩
    refine ⟨_, _, rfl, rfl, _, _, rfl, rfl, .inl ⟨by omega, by omega⟩, q _ _ ?_ ?_ (B3.mono (by omega)) ((S1.trans (s1.sameB.trans S2)).trans S3)⟩
    all_goals
      rw [e15']
      rcases v1.2 with rfl | rfl
      all_goals (unfold T40; omega)
  refine ⟨_, rfl, _, _, rfl, rfl, pw10 (by decide) (by decide), _, _, rfl, rfl, pw10 (by decide) (by decide), (by show 2 ≤ sizeLine; decide), fun p hp => ?_⟩
  dsimp only
  rw [e15', e40]
  have s1 := same_new hp (.lst [V.int 1000000000000000, V.int T40])
  obtain ⟨pb, pg, _⟩ := B1.free hp
  refine ⟨_, rfl, b, g, l, _, 2, rfl, B1.same s1, by omega, by decide, by decide, fun k H2 k0 k1 B2 S2 => ?_⟩
  obtain ⟨v, hv, v0, v1⟩ : ∃ v, atI [V.int 1000000000000000, V.int T40] k = some (.int v) ∧ 0 < v ∧ v ≤ T40 := by
    have : k = 0 ∨ k = 1 := by omega
    rcases this with rfl | rfl
    · exact ⟨1000000000000000, rfl, by decide, by decide⟩
    · exact ⟨T40, rfl, by decide, by decide⟩
  have big : v < 2 ^ 500 := Int.lt_of_le_of_lt v1 (by decide)
  refine ⟨p, _, _, _, rfl, rfl, SqL.of (S2 p _ upd_same pb pg), hv, b, g, l, _, _, rfl, B2, by omega, v0, big, fun r H3 r0 r1 B3 S3 => ?_⟩
  have S4 := (S1.trans (s1.sameB.trans S2)).trans S3
  refine ⟨_, rfl, rfl, _, rfl, ite2 (fun _ => ⟨_, rfl, q _ _ (by unfold T40 at *; omega) (by omega) (B3.mono (by omega)) S4⟩) (fun _ => ⟨_, rfl, _, _, rfl, rfl, q _ _ (by unfold T40 at *; omega) (by unfold T40 at *; omega) (B3.mono (by omega)) S4⟩)⟩
theorem sc_law_span : FnScope ["bag", "choice", "low", "high"] ["bag"] (defScope s_law_span) := ⟨rfl, rfl, rfl, by decide +kernel, rfl, by decide +kernel, by decide +kernel⟩
theorem ok_law_span {f : Addr} {fd : FuncData} (F : Fun K "_law_span" "_law_span" s_law_span f fd) (B : Bl mg) {aD t1 t2 t3 t4 t5 t6 t7 t8 : Addr} (De : Deeds K w mg aD t1 t2 t3 t4 t5 t6 t7 t8) (C_DEED_PARTS : mg "DEED_PARTS" = some (.ref aD)) {t_MOST_LETTERS : Tok} (C_MOST_LETTERS : mg "MOST_LETTERS" = some (.int 8 t_MOST_LETTERS)) (G_law_draw : FnH P w K mg base 1 "_law_draw" ["bag", "many"] (spDraw)) (G_law_number : FnH P w K mg base 2 "_law_number" ["bag"] (spNum1)) : FnOk P w K mg base CX0 3 f fd ["bag"] (spSpan1) := by
  refine F.ok sc_law_span (fun vs H Q E h => ?_) (fun cdv A outer s H vs Q E hr h => ?_)
  · obtain ⟨b, g, l, n, rfl, Bg, hn, q⟩ := h
    rfl
  obtain ⟨b, g, l, n, rfl, Bg, hn, q⟩ := h
  refine ⟨_, (pss_cons (ps_set (i := 1) sc_law_span.nd rfl (Or.inl rfl) (pe_fn G_law_draw (hr.mono (by decide)) rfl (pa_cons (pv 0) (pa_cons pe_int pa_nil))))
      (pss_cons (ps_set (i := 2) sc_law_span.nd rfl (Or.inl rfl) (pe_fn G_law_number (hr.mono (by decide)) rfl (pa_cons (pv 0) pa_nil)))
      (pss_cons (ps_if (pt_cmpR op_eq (pv 1) pe_int (nomark _)) (pss_one (ps_ret (pe_tup (pa_cons pe_non (pa_cons pe_non pa_nil))))) pss_nil)
      (pss_cons (ps_if (pt_cmpR op_eq (pv 1) pe_int (nomark _)) (pss_one (ps_ret (pe_tup (pa_cons pe_non (pa_cons (pv 2) pa_nil))))) pss_nil)
      (pss_cons (ps_if (pt_cmpR op_eq (pv 1) pe_int (nomark _)) (pss_one (ps_ret (pe_tup (pa_cons (pv 2) (pa_cons pe_non pa_nil))))) pss_nil)
      (pss_cons (ps_if (pt_cmpR op_eq (pv 1) pe_int (nomark _)) (pss_one (ps_ret (pe_tup (pa_cons (pv 2) (pa_cons (pv 2) pa_nil))))) pss_nil)
      (pss_cons (ps_if (pt_cmpR op_lt (pv 1) pe_int (nomark _)) (pss_one (ps_ret (pe_tup (pa_cons (pv 2) (pa_cons (pe_op op_add (pe_op op_add (pv 2) pe_int) (pe_fn G_law_draw (hr.mono (by decide)) rfl (pa_cons (pv 0) (pa_cons pe_int pa_nil)))) pa_nil))))) pss_nil)
      (pss_cons (ps_set (i := 3) sc_law_span.nd rfl (Or.inl rfl) (pe_fn G_law_number (hr.mono (by decide)) rfl (pa_cons (pv 0) pa_nil)))
      (pss_one (ps_ret (pe_tup (pa_cons (pe_callB (call_min2 rfl) rfl B.min_ bt_min (pa_cons (pv 2) (pa_cons (pv 3) pa_nil))) (pa_cons (pe_callB (call_max2 rfl) rfl B.max_ bt_max (pa_cons (pv 2) (pa_cons (pv 3) pa_nil))) pa_nil))))))))))))), ?_⟩
  have fin : ∀ (lo hi : Option Int) (H2 : Hp), Bag H2 b g l (n + 8) → SameB b g H H2 → inU lo → inU hi → ∀ t, H2 t = none → Q (.ref t) (upd H2 t (.tup [eV lo, eV hi])) := fun lo hi H2 B2 S2 u1 u2 t ht =>
    q t lo hi _ (S2.back B2 t ht) upd_same u1 u2 (B2.same (same_new ht _)) (S2.trans (same_new ht _).sameB)
  have none_in : inU none := fun i z => by cases z
  have some_in : ∀ x : Int, -T40 - 20 < x → x < T40 + 20 → inU (some x) := fun x h1 h2 i z => by
    injection z with z
    subst z
    exact Nat.lt_of_lt_of_le (show x.natAbs < 20000000000000000000000000000000000000000 by unfold T40 at *; omega) (by decide)
  refine ⟨_, rfl, b, g, l, n, 7, rfl, Bg, by omega, by decide, by decide, fun c H1 c0 c1 B1 S1 => ?_⟩
  refine ⟨_, rfl, b, g, l, _, rfl, B1, by omega, fun x H2 x0 x1 B2 S2 => ?_⟩
  have S3 := S1.trans S2
  have B3 : Bag H2 b g l (n + 8) := B2.mono (by omega)
  have x_in : inU (some x) := some_in x (by omega) (by omega)
  refine ⟨_, rfl, rfl, _, rfl, ite2 (fun _ => ⟨(by show 2 ≤ sizeLine; decide), fin none none _ B3 S3 none_in none_in⟩) (fun _ => ?_)⟩
  refine ⟨_, rfl, rfl, _, rfl, ite2 (fun _ => ⟨_, rfl, (by show 2 ≤ sizeLine; decide), fin none (some x) _ B3 S3 none_in x_in⟩) (fun _ => ?_)⟩
  refine ⟨_, rfl, rfl, _, rfl, ite2 (fun _ => ⟨_, rfl, (by show 2 ≤ sizeLine; decide), fin (some x) none _ B3 S3 x_in none_in⟩) (fun _ => ?_)⟩
  refine ⟨_, rfl, rfl, _, rfl, ite2 (fun _ => ⟨_, rfl, _, rfl, (by show 2 ≤ sizeLine; decide), fin (some x) (some x) _ B3 S3 x_in x_in⟩) (fun _ => ?_)⟩
  refine ⟨_, rfl, _, _, rfl, rfl, _, rfl, ite2 (fun _ => ?_) (fun _ => ?_)⟩
  · refine ⟨_, rfl, _, rfl, _, _, rfl, rfl, _, rfl, b, g, l, _, 12, rfl, B2, by omega, by decide, by decide, fun r H4 r0 r1 B4 S4 => ?_⟩
    refine ⟨_, _, rfl, rfl, (by show 2 ≤ sizeLine; decide), ?_⟩
    exact fin (some x) (some (x + 1 + r)) _ (B4.mono (by omega)) (S3.trans S4) x_in (some_in _ (by omega) (by omega))
  · refine ⟨_, rfl, b, g, l, _, rfl, B2, by omega, fun y H4 y0 y1 B4 S4 => ?_⟩
    refine ⟨_, rfl, _, rfl, _, _, rfl, _, rfl, _, rfl, _, _, rfl, (by show 2 ≤ sizeLine; decide), ?_⟩
    refine fin (some (if y < x then y else x)) (some (if y > x then y else x)) _ (B4.mono (by omega)) (S3.trans S4) (some_in _ ?_ ?_) (some_in _ ?_ ?_)
    all_goals split <;> omega
theorem sc_law_whole : FnScope ["found"] ["found"] (defScope s_law_whole) := ⟨rfl, rfl, rfl, by decide +kernel, rfl, by decide +kernel, by decide +kernel⟩
theorem ok_law_whole {f : Addr} {fd : FuncData} (F : Fun K "_law_whole" "_law_whole" s_law_whole f fd) (B : Bl mg) {aD t1 t2 t3 t4 t5 t6 t7 t8 : Addr} (De : Deeds K w mg aD t1 t2 t3 t4 t5 t6 t7 t8) (C_DEED_PARTS : mg "DEED_PARTS" = some (.ref aD)) {t_MOST_LETTERS : Tok} (C_MOST_LETTERS : mg "MOST_LETTERS" = some (.int 8 t_MOST_LETTERS))  : FnOk P w K mg base CX0 1 f fd ["found"] (spWhole K) := by
  refine F.ok sc_law_whole (fun vs H Q E h => ?_) (fun cdv A outer s H vs Q E hr h => ?_)
  · obtain ⟨v, t, rfl, hty, q⟩ := h
    rfl
  obtain ⟨v, t, rfl, hty, q⟩ := h
  refine ⟨_, (pss_one (ps_ret (pe_and (pe_callB (call_isinst (n := "")) rfl B.isinstance_ bt_isinstance (pa_cons (pv 0) (pa_cons (pe_bltn (v := .ty "int") rfl B.int_ bt_int rfl) pa_nil))) (pe_one (pe_not (pe_callB (call_isinst (n := "")) rfl B.isinstance_ bt_isinstance (pa_cons (pv 0) (pa_cons (pe_bltn (v := .ty "bool") rfl B.bool_ bt_bool rfl) pa_nil)))))))), ?_⟩
  cases hty
  all_goals first
    | exact ⟨_, rfl, _, "int", "int", true, rfl, .int _, rfl, _, rfl, iteT ⟨_, rfl, _, "int", "bool", false, rfl, .int _, rfl, _, rfl, q⟩⟩
    | exact ⟨_, rfl, _, "bool", "int", true, rfl, .bl _, rfl, _, rfl, iteT ⟨_, rfl, _, "bool", "bool", true, rfl, .bl _, rfl, _, rfl, q⟩⟩
    | exact ⟨_, rfl, _, _, "int", false, rfl, (by first | exact .non | exact .str _ | exact .flt _ | (exact .lst (by assumption)) | (exact .frz (by assumption)) | (exact .tup (by assumption)) | (exact .dK (by assumption)) | (exact .dT (by assumption))), rfl, _, rfl, iteF q⟩
theorem sc_law_field : FnScope ["bag", "choice", "some"] ["bag"] (defScope s_law_field) := ⟨rfl, rfl, rfl, by decide +kernel, rfl, by decide +kernel, by decide +kernel⟩
theorem ok_law_field {f : Addr} {fd : FuncData} (F : Fun K "_law_field" "_law_field" s_law_field f fd) (B : Bl mg) {aD t1 t2 t3 t4 t5 t6 t7 t8 : Addr} (De : Deeds K w mg aD t1 t2 t3 t4 t5 t6 t7 t8) (C_DEED_PARTS : mg "DEED_PARTS" = some (.ref aD)) {t_MOST_LETTERS : Tok} (C_MOST_LETTERS : mg "MOST_LETTERS" = some (.int 8 t_MOST_LETTERS)) (G_law_draw : FnH P w K mg base 1 "_law_draw" ["bag", "many"] (spDraw)) : FnOk P w K mg base CX0 2 f fd ["bag"] (spLawField) := by
  refine F.ok sc_law_field (fun vs H Q E h => ?_) (fun cdv A outer s H vs Q E hr h => ?_)
  · obtain ⟨b, g, l, n, rfl, Bg, hn, q⟩ := h
    rfl
  obtain ⟨b, g, l, n, rfl, Bg, hn, q⟩ := h
  refine ⟨_, (pss_cons (ps_set (i := 1) sc_law_field.nd rfl (Or.inl rfl) (pe_fn G_law_draw (hr.mono (by decide)) rfl (pa_cons (pv 0) (pa_cons pe_int pa_nil))))
      (pss_cons (ps_set (i := 2) sc_law_field.nd rfl (Or.inr rfl) pe_str)
      (pss_cons (ps_if (pt_cmpR op_eq (pv 1) pe_int (nomark _)) (pss_one (ps_ret (pe_bm PySem.F.plainAttrs_str PySem.F.slot_str_join PySem.F.type_str_join mt_join pe_str (pa_cons (pe_lc (N' := ["k", "bag", "some"]) (js := [none, some 0, some 2]) rfl (capOk (N := ["bag", "choice", "some"]) (outer := defScope s_law_field) (by decide +kernel)) (pi_range1 rfl B.range_ (pa_cons (pe_op op_add pe_int (pe_fn G_law_draw (hr.mono (by decide)) rfl (pa_cons (pv 0) (pa_cons pe_int pa_nil)))) pa_nil)) (fun _ _ _ _ _ => (pg_name (i := 0) (show List.Nodup (["k", "bag", "some"] : List Str) by decide +kernel) rfl (Or.inl rfl))) (fun _ _ _ _ _ => pifs_nil) (fun _ _ _ _ _ => (pe_ix ix_str (pv 2) (pe_fn G_law_draw (hr.mono (by decide)) rfl (pa_cons (pv 1) (pa_cons pe_int pa_nil))) (fun _ _ => rfl)))) pa_nil)))) pss_nil)
      (pss_one (ps_ret (pe_bm PySem.F.plainAttrs_str PySem.F.slot_str_join PySem.F.type_str_join mt_join pe_str (pa_cons (pe_lc (N' := ["k", "bag", "some"]) (js := [none, some 0, some 2]) rfl (capOk (N := ["bag", "choice", "some"]) (outer := defScope s_law_field) (by decide +kernel)) (pi_range1 rfl B.range_ (pa_cons (pe_op op_add pe_int (pe_fn G_law_draw (hr.mono (by decide)) rfl (pa_cons (pv 0) (pa_cons pe_int pa_nil)))) pa_nil)) (fun _ _ _ _ _ => (pg_name (i := 0) (show List.Nodup (["k", "bag", "some"] : List Str) by decide +kernel) rfl (Or.inl rfl))) (fun _ _ _ _ _ => pifs_nil) (fun _ _ _ _ _ => (pe_ix ix_str (pv 2) (pe_op op_mul (pe_fn G_law_draw (hr.mono (by decide)) rfl (pa_cons (pv 1) (pa_cons pe_int pa_nil))) pe_int) (fun _ _ => rfl)))) pa_nil))))))), ?_⟩
  refine ⟨_, rfl, b, g, l, n, 3, rfl, Bg, by omega, by decide, by decide, fun c0 H1 c1 c2 B1 S1 => ?_⟩
  refine ⟨_, rfl, rfl, _, rfl, ite2 (fun _ => ?_) (fun _ => ?_)⟩
  · refine ⟨rfl, _, rfl, b, g, l, _, 8, rfl, B1, by omega, by decide, by decide, fun r H2 r0 r1 B2 S2 => ?_⟩
    refine ⟨_, _, rfl, rfl, _, rfl, by omega, by omega, fun p hp => ?_⟩
    obtain ⟨pb, pg, pl⟩ := B2.free hp
    have s3 := same_new hp (.lst [])
    have S12 := S1.trans S2
    refine lc_range (n := (1 + r).toNat) (fun i σ' ys H' => (∃ v, σ' = [v, some (.ref b), some (.str "abcdefghijklmnopqrstuvwxyz")]) ∧ SameB b g H H' ∧ Bag H' b g l (n + 2 + i) ∧ H' p = some (.lst ys) ∧ ∃ cs : List Nat, ys = (cs.map fun c => (⟨#[c]⟩ : Str)).map V.str ∧ cs.length = i ∧ ∀ c ∈ cs, letterOk c = true) ?_ ?_ ?_ ?_
    · exact ⟨⟨none, rfl⟩, S12.trans s3.sameB, (B2.same s3).mono (by omega), upd_same, [], rfl, rfl, fun c hc => by simp at hc⟩
    · rintro i σ' ys H' hi ⟨_, _, _, h1, cs, rfl, h2, _⟩
      exact ⟨h1, by rw [List.length_map, List.length_map, h2]; exact small1000 (by omega)⟩
    · rintro i σ' ys H4 N hi ⟨⟨v, rfl⟩, S4, B4, h1, cs, rfl, h2, h3⟩ hN
      refine ⟨_, rfl, _, rfl, b, g, l, _, 26, rfl, B4, by omega, by decide, by decide, fun k H5 k0 k1 B5 S5 => ?_⟩
      obtain ⟨c, hc, ok⟩ := az_at k0 k1
      have h5 := S5 _ _ h1 pb pg
      refine ⟨_, _, c, rfl, rfl, (by show 26 ≤ sizeLine; decide), hc, h5, hN _ _ _ ⟨⟨_, rfl⟩, ?_, ?_, upd_same, cs ++ [c], ?_, ?_, ?_⟩⟩
      · have np : H p = none := S12.none hp pb pg
        exact (S4.trans S5).off np
      · exact (B5.off pb pg pl).mono (by omega)
      · rw [List.map_append, List.map_append]; rfl
      · rw [List.length_append, h2]; rfl
      · intro c' hc'
        rcases List.mem_append.mp hc' with z | z
        · exact h3 c' z
        · rw [List.mem_singleton.mp z]; exact ok
    · rintro σ' ys H4 ⟨_, S4, B4, h1, cs, rfl, h2, h3⟩
      refine ⟨_, _, _, rfl, rfl, SqL.of h1, join_ok cs (by omega), q _ _ (join_field (by omega) (by omega) h3) (B4.mono (by omega)) S4⟩
  · refine ⟨rfl, _, rfl, b, g, l, _, 4, rfl, B1, by omega, by decide, by decide, fun r H2 r0 r1 B2 S2 => ?_⟩
    refine ⟨_, _, rfl, rfl, _, rfl, by omega, by omega, fun p hp => ?_⟩
    obtain ⟨pb, pg, pl⟩ := B2.free hp
    have s3 := same_new hp (.lst [])
    have S12 := S1.trans S2
    refine lc_range (n := (1 + r).toNat) (fun i σ' ys H' => (∃ v, σ' = [v, some (.ref b), some (.str "abcdefghijklmnopqrstuvwxyz")]) ∧ SameB b g H H' ∧ Bag H' b g l (n + 2 + i) ∧ H' p = some (.lst ys) ∧ ∃ cs : List Nat, ys = (cs.map fun c => (⟨#[c]⟩ : Str)).map V.str ∧ cs.length = i ∧ ∀ c ∈ cs, letterOk c = true) ?_ ?_ ?_ ?_
    · exact ⟨⟨none, rfl⟩, S12.trans s3.sameB, (B2.same s3).mono (by omega), upd_same, [], rfl, rfl, fun c hc => by simp at hc⟩
    · rintro i σ' ys H' hi ⟨_, _, _, h1, cs, rfl, h2, _⟩
      exact ⟨h1, by rw [List.length_map, List.length_map, h2]; exact small1000 (by omega)⟩
    · rintro i σ' ys H4 N hi ⟨⟨v, rfl⟩, S4, B4, h1, cs, rfl, h2, h3⟩ hN
      refine ⟨_, rfl, _, rfl, b, g, l, _, 2, rfl, B4, by omega, by decide, by decide, fun k H5 k0 k1 B5 S5 => ?_⟩
      obtain ⟨c, hc, ok⟩ := az_at (r := k * 25) (by omega) (by omega)
      refine ⟨_, _, rfl, rfl, .inl ⟨by omega, by omega⟩, ?_⟩
      have h5 := S5 _ _ h1 pb pg
      refine ⟨_, _, c, rfl, rfl, (by show 26 ≤ sizeLine; decide), hc, h5, hN _ _ _ ⟨⟨_, rfl⟩, ?_, ?_, upd_same, cs ++ [c], ?_, ?_, ?_⟩⟩
      · have np : H p = none := S12.none hp pb pg
        exact (S4.trans S5).off np
      · exact (B5.off pb pg pl).mono (by omega)
      · rw [List.map_append, List.map_append]; rfl
      · rw [List.length_append, h2]; rfl
      · intro c' hc'
        rcases List.mem_append.mp hc' with z | z
        · exact h3 c' z
        · rw [List.mem_singleton.mp z]; exact ok
    · rintro σ' ys H4 ⟨_, S4, B4, h1, cs, rfl, h2, h3⟩
      refine ⟨_, _, _, rfl, rfl, SqL.of h1, join_ok cs (by omega), q _ _ (join_field (by omega) (by omega) h3) (B4.mono (by omega)) S4⟩
theorem sc_law_fields : FnScope ["bag", "most"] ["bag", "most"] (defScope s_law_fields) := ⟨rfl, rfl, rfl, by decide +kernel, rfl, by decide +kernel, by decide +kernel⟩
theorem ok_law_fields {f : Addr} {fd : FuncData} (F : Fun K "_law_fields" "_law_fields" s_law_fields f fd) (B : Bl mg) {aD t1 t2 t3 t4 t5 t6 t7 t8 : Addr} (De : Deeds K w mg aD t1 t2 t3 t4 t5 t6 t7 t8) (C_DEED_PARTS : mg "DEED_PARTS" = some (.ref aD)) {t_MOST_LETTERS : Tok} (C_MOST_LETTERS : mg "MOST_LETTERS" = some (.int 8 t_MOST_LETTERS)) (G_law_field : FnH P w K mg base 2 "_law_field" ["bag"] (spLawField)) (G_law_draw : FnH P w K mg base 1 "_law_draw" ["bag", "many"] (spDraw)) : FnOk P w K mg base CX0 3 f fd ["bag", "most"] (spLF20) := by
  refine F.ok sc_law_fields (fun vs H Q E h => ?_) (fun cdv A outer s H vs Q E hr h => ?_)
  · obtain ⟨b, g, l, n, most, rfl, Bg, hn, m0, m9, q⟩ := h
    rfl
  obtain ⟨b, g, l, n, most, rfl, Bg, hn, m0, m9, q⟩ := h
  refine ⟨_, (pss_one (ps_ret (pe_sortset rfl (pe_lc (N' := ["k", "bag"]) (js := [none, some 0]) rfl (capOk (N := ["bag", "most"]) (outer := defScope s_law_fields) (by decide +kernel)) (pi_range1 rfl B.range_ (pa_cons (pe_fn G_law_draw (hr.mono (by decide)) rfl (pa_cons (pv 0) (pa_cons (pe_op op_add (pv 1) pe_int) pa_nil))) pa_nil)) (fun _ _ _ _ _ => (pg_name (i := 0) (show List.Nodup (["k", "bag"] : List Str) by decide +kernel) rfl (Or.inl rfl))) (fun _ _ _ _ _ => pifs_nil) (fun _ _ _ _ _ => (pe_fn G_law_field (hr.mono (by decide)) rfl (pa_cons (pv 1) pa_nil)))) rfl B.sorted_ rfl B.set_))), ?_⟩
  have big : most + 1 < 2 ^ 500 := by have : (30 : Int) < 2 ^ 500 := by decide
                                      omega
  refine ⟨_, rfl, _, rfl, _, _, rfl, rfl, b, g, l, n, _, rfl, Bg, by omega, by omega, big, fun r H1 r0 r1 B1 S1 => ?_⟩
  refine ⟨_, rfl, by omega, by omega, fun p hp => ?_⟩
  obtain ⟨pb, pg, pl⟩ := B1.free hp
  have np : H p = none := S1.none hp pb pg
  have s3 := same_new hp (.lst [])
  refine lc_range (n := r.toNat) (fun i σ' ys H' => (∃ v, σ' = [v, some (.ref b)]) ∧ SameB b g H H' ∧ Bag H' b g l (n + 1 + 12 * i) ∧ H' p = some (.lst ys) ∧ ∃ ts : List Str, ys = ts.map V.str ∧ ts.length = i ∧ ∀ t ∈ ts, FieldOk t) ?_ ?_ ?_ ?_
  · exact ⟨⟨none, rfl⟩, S1.trans s3.sameB, (B1.same s3).mono (by omega), upd_same, [], rfl, rfl, fun c hc => by simp at hc⟩
  · rintro i σ' ys H' hi ⟨_, _, _, h1, ts, rfl, h2, _⟩
    exact ⟨h1, by rw [List.length_map, h2]; exact small1000 (by omega)⟩
  · rintro i σ' ys H4 N hi ⟨⟨v, rfl⟩, S4, B4, h1, ts, rfl, h2, h3⟩ hN
    refine ⟨_, rfl, b, g, l, _, rfl, B4, by omega, fun x H5 ok B5 S5 => ?_⟩
    have h5 := S5 _ _ h1 pb pg
    refine ⟨h5, hN _ _ _ ⟨⟨_, rfl⟩, (S4.trans S5).off np, (B5.off pb pg pl).mono (by omega), upd_same, ts ++ [x], ?_, ?_, ?_⟩⟩
    · rw [List.map_append]; rfl
    · rw [List.length_append, h2]; rfl
    · intro c' hc'
      rcases List.mem_append.mp hc' with z | z
      · exact h3 c' z
      · rw [List.mem_singleton.mp z]; exact ok
  · rintro σ' ys H4 ⟨_, S4, B4, h1, ts, rfl, h2, h3⟩
    refine ⟨p, ts, rfl, SqL.of h1, by omega, fun z ms nd mem le so hz => ?_⟩
    obtain ⟨zb, zg, zl⟩ := B4.free hz
    have s5 := same_new hz (.lst (ms.map V.str))
    exact q z ms _ (S4.none hz zb zg) upd_same (sorted_lt so nd) (fun f hf => h3 f ((mem f).mp hf)) (by omega) ((B4.same s5).mono (by omega)) (S4.trans s5.sameB)
theorem sc_law_plain : FnScope ["bag", "deep", "choice", "some"] ["bag", "deep"] (defScope s_law_plain) := ⟨rfl, rfl, rfl, by decide +kernel, rfl, by decide +kernel, by decide +kernel⟩
theorem ok_law_plain {f : Addr} {fd : FuncData} (F : Fun K "_law_plain" "_law_plain" s_law_plain f fd) (B : Bl mg) {aD t1 t2 t3 t4 t5 t6 t7 t8 : Addr} (De : Deeds K w mg aD t1 t2 t3 t4 t5 t6 t7 t8) (C_DEED_PARTS : mg "DEED_PARTS" = some (.ref aD)) {t_MOST_LETTERS : Tok} (C_MOST_LETTERS : mg "MOST_LETTERS" = some (.int 8 t_MOST_LETTERS)) (G_law_draw : FnH P w K mg base 1 "_law_draw" ["bag", "many"] (spDraw)) (G_law_number : FnH P w K mg base 2 "_law_number" ["bag"] (spNum1)) (M_self : mg "_law_plain" = some (.ref f)) : FnOk P w K mg base CX0 6 f fd ["bag", "deep"] (spUpTo 2 spPlN) := by
  have b_self := F.binds (ps := ["bag", "deep"]) fun _ _ _ _ _ _ us hl => match us, hl with | [_, _], _ => rfl
  refine upTo_ok (L := 2) (D := 2) (rec_fn F sc_law_plain b_self M_self 2 (spPlN) fun n sp0 hsp G_law_plain => ?_)
  refine F.ok sc_law_plain (fun vs H Q E h => ?_) (fun cdv A outer s H vs Q E hr h => ?_)
  · obtain ⟨b, g, l, m, rfl, Bg, hn, q⟩ := h
    rfl
  obtain ⟨b, g, l, m, rfl, Bg, hn, q⟩ := h
  refine ⟨_, (pss_cons (ps_set (i := 2) sc_law_plain.nd rfl (Or.inl rfl) (pe_fn G_law_draw (hr.mono (by omega)) rfl (pa_cons (pv 0) (pa_cons (pe_op op_add pe_int (pe_op op_mul pe_int (pe_callTy call_int1 rfl B.int_ bt_int (pa_cons (pe_cmpR op_gt (pv 1) pe_int (nomark _)) pa_nil)))) pa_nil))))
      (pss_cons (ps_if (pt_cmpR op_lt (pv 2) pe_int (nomark _)) (pss_one (ps_ret (pe_ix ix_list (pe_lst (pa_cons pe_non (pa_cons pe_bl (pa_cons pe_bl (pa_cons pe_str (pa_cons pe_str (pa_cons pe_dnewK pa_nil))))))) (pv 2) (fun _ _ => rfl)))) pss_nil)
      (pss_cons (ps_if (pt_cmpR op_eq (pv 2) pe_int (nomark _)) (pss_one (ps_ret (pe_fn G_law_number (hr.mono (by omega)) rfl (pa_cons (pv 0) pa_nil)))) pss_nil)
      (pss_cons (ps_setLC (N' := ["k", "bag", "deep"]) (js := [none, some 0, some 1]) (i := 3) sc_law_plain.nd rfl (Or.inl rfl) rfl (capOk (N := ["bag", "deep", "choice", "some"]) (outer := defScope s_law_plain) (by decide +kernel)) (pi_range1 rfl B.range_ (pa_cons (pe_fn G_law_draw (hr.mono (by omega)) rfl (pa_cons (pv 0) (pa_cons pe_int pa_nil))) pa_nil)) (fun _ _ _ _ _ => (pg_name (i := 0) (show List.Nodup (["k", "bag", "deep"] : List Str) by decide +kernel) rfl (Or.inl rfl))) (fun _ _ _ _ _ => pifs_nil) (fun _ _ _ _ _ => (pe_fn G_law_plain (hr.mono (by omega)) rfl (pa_cons (pv 1) (pa_cons (pe_op op_sub (pv 2) pe_int) pa_nil)))))
      (pss_cons (ps_if (pt_cmpR op_eq (pv 2) pe_int (nomark _)) (pss_one (ps_ret (pv 3))) pss_nil)
      (pss_one (ps_ret (pe_ifExp (pt_cmpR op_eq (pv 2) pe_int (nomark _)) (pe_callTy call_tuple_of rfl B.tuple_ bt_tuple (pa_cons (pv 3) pa_nil)) (pe_disp (pps_cons pe_str (pv 3) pps_nil) rfl rfl (by simp) (by decide)))))))))), ?_⟩
  have hc := cPl_pos n
  obtain ⟨M, hM, M0, M1, Mz⟩ : ∃ M : Int, M = 7 + 3 * (if decide ((0 : Int) < (n : Int)) = true then 1 else 0) ∧ 7 ≤ M ∧ M ≤ 10 ∧ (n = 0 → M = 7) := by
    by_cases h : (0 : Int) < (n : Int)
    · rw [decide_eq_true h]; exact ⟨10, rfl, by decide, by decide, fun z => absurd h (by omega)⟩
    · rw [decide_eq_false h]; exact ⟨7, rfl, by decide, by decide, fun _ => rfl⟩
  refine ⟨_, rfl, _, rfl, _, _, rfl, rfl, .inr ⟨_, rfl, _, _, rfl, rfl, .inl ⟨by decide, by decide⟩, _, _, rfl, rfl, ?_⟩⟩
  dsimp only
  rw [← hM]
  have big : M < 2 ^ 500 := Int.lt_of_le_of_lt M1 (by decide)
  refine ⟨b, g, l, m, M, rfl, Bg, by omega, by omega, big, fun c H1 c0 c1 B1 S1 => ?_⟩
  refine ⟨_, rfl, _, _, rfl, rfl, _, rfl, ite2 (fun h6 => ?_) (fun h6 => ?_)⟩
  · have h6 : c < 6 := of_decide_eq_true h6
    refine fun d0 hd0 => ?_
    have s2 := same_new hd0 (.dK [])
    have d2 : (upd H1 d0 (.dK [])) d0 = some (.dK []) := upd_same
    have z0 := S1.back B1 d0 hd0
    have B2 := B1.same s2
    generalize upd H1 d0 (.dK []) = H2 at *
    refine ⟨(by show 6 ≤ sizeLine; decide), fun g0 hg0 => ?_⟩
    have s3 := same_new hg0 (.lst [V.non, V.bl true, V.bl false, V.str "", V.str "a", V.ref d0])
    have g3 : (upd H2 g0 (.lst [V.non, V.bl true, V.bl false, V.str "", V.str "a", V.ref d0])) g0 = some (.lst [V.non, V.bl true, V.bl false, V.str "", V.str "a", V.ref d0]) := upd_same
    have B3 := B2.same s3
    have d3 := s3 _ _ d2
    generalize upd H2 g0 (.lst [V.non, V.bl true, V.bl false, V.str "", V.str "a", V.ref d0]) = H3 at *
    obtain ⟨v, d, hv, hrep, hdep, hsz⟩ : ∃ (v : V) (d : DY), atI [V.non, V.bl true, V.bl false, V.str "", V.str "a", V.ref d0] c = some v ∧ RepY (nw H H3) d v ∧ depthY d = 0 ∧ szY d ≤ 3 := by
      have : c = 0 ∨ c = 1 ∨ c = 2 ∨ c = 3 ∨ c = 4 ∨ c = 5 := by omega
      rcases this with rfl | rfl | rfl | rfl | rfl | rfl
      · exact ⟨_, .non, rfl, by rw [RepY], rfl, Nat.zero_le _⟩
      · exact ⟨_, .bl true, rfl, by rw [RepY], rfl, Nat.zero_le _⟩
      · exact ⟨_, .bl false, rfl, by rw [RepY], rfl, Nat.zero_le _⟩
      · exact ⟨_, .str "", rfl, by rw [RepY]; exact ⟨rfl, by decide⟩, rfl, by rw [szY]; decide⟩
      · exact ⟨_, .str "a", rfl, by rw [RepY]; exact ⟨rfl, by decide⟩, rfl, by rw [szY]; decide⟩
      · exact ⟨_, .dic, rfl, by rw [RepY]; exact ⟨d0, rfl, nw_of z0 d3⟩, rfl, Nat.zero_le _⟩
    refine ⟨_, rfl, g0, _, _, _, rfl, rfl, SqL.of g3, hv, ?_⟩
    exact q v d H3 hrep (by omega) hsz (B3.mono (by omega)) (S1.trans (s2.trans s3).sameB)
  refine ⟨_, rfl, rfl, _, rfl, ite2 (fun h7 => ?_) (fun h7 => ?_)⟩
  · exact ⟨_, rfl, b, g, l, _, rfl, B1, by omega, fun r H2 r0 r1 B2 S2 => q _ (.int r) _ (by rw [RepY]) (Nat.zero_le _) (Nat.zero_le _) (B2.mono (by omega)) (S1.trans S2)⟩
  have h6 : ¬ c < 6 := fun z => h6 (decide_eq_true z)
  have h7 : c ≠ 6 := fun z => h7 (decide_eq_true (by rw [z]))
  cases n with
  | zero => have := Mz rfl; omega
  | succ n =>
  have e0 := hsp n rfl
  subst e0
  have hs := cPl_succ n
  have hc0 := cPl_pos n
  refine ⟨_, rfl, b, g, l, _, 4, rfl, B1, by omega, by decide, by decide, fun r H2 r0 r1 B2 S2 => ?_⟩
  refine ⟨_, rfl, by omega, by omega, fun p hp => ?_⟩
  obtain ⟨pb, pg, pl⟩ := B2.free hp
  have S12 := S1.trans S2
  have np : H p = none := S12.back B2 p hp
  have s3 := same_new hp (.lst [])
  refine lc_range (n := r.toNat) (fun i σ' ys H' => (∃ v, σ' = [v, some (.ref b), some (.int ((n : Int) + 1))]) ∧ SameB b g H H' ∧ Bag H' b g l (m + 2 + cPl n * i) ∧ H' p = some (.lst ys) ∧ (∀ a, H' a = none → (upd H2 p (.lst [])) a = none) ∧ ∃ ds : List DY, RepYs (nw (upd H2 p (.lst [])) H') ds ys ∧ ys.length = i ∧ ∀ d ∈ ds, depthY d ≤ 2 * n ∧ szY d ≤ 3) ?_ ?_ ?_ ?_
  · exact ⟨⟨none, rfl⟩, S12.trans s3.sameB, (B2.same s3).mono (by omega), upd_same, fun a ha => ha, [], RepYs.nil, rfl, fun d hd => nomatch hd⟩
  · rintro i σ' ys H' hi ⟨_, _, _, h1, _, ds, _, h2, _⟩
    exact ⟨h1, by rw [h2]; exact small1000 (by omega)⟩
  · rintro i σ' ys H4 N hi ⟨⟨v, rfl⟩, S4, B4, h1, t4, ds, h2, h3, h4⟩ hN
    have hi3 : (i : Int) ≤ 2 := by omega
    have mul : cPl n * (i : Int) ≤ cPl n * 2 := Int.mul_le_mul_of_nonneg_left hi3 (by omega)
    refine ⟨_, rfl, _, rfl, _, _, rfl, rfl, b, g, l, _, ?_, B4, by omega, fun x d H5 r5 d5 z5 B5 S5 => ?_⟩
    · show [V.ref b, V.int ((n : Int) + 1 - 1)] = [V.ref b, V.int (n : Int)]
      rw [show (n : Int) + 1 - 1 = (n : Int) by omega]
    have h5 := S5 _ _ h1 pb pg
    refine ⟨h5, hN _ _ _ ⟨⟨_, rfl⟩, sb_off (S4.trans S5) np, (bag_off B5 pb pg pl).mono (by rw [Int.natCast_succ, Int.mul_add]; omega), upd_same, fun a ha => ?_, ds ++ [d], ?_, ?_, ?_⟩⟩
    · have : a ≠ p := fun z => by rw [z, upd_same] at ha; cases ha
      rw [upd_ne this] at ha
      exact t4 a (S5.back B5 a ha)
    · have hP : (upd H2 p (.lst [])) p ≠ none := by rw [upd_same]; exact Option.some_ne_none _
      have hB : (upd H2 p (.lst [])) b ≠ none := (B2.same s3).trk.1
      have hG : (upd H2 p (.lst [])) g ≠ none := (B2.same s3).trk.2
      have off : Same (nw (upd H2 p (.lst [])) H5) (nw (upd H2 p (.lst [])) (upd H5 p (.lst (ys ++ [x])))) := nw_right fun a o z1 z2 => by
        have : a ≠ p := fun z => hP (by rw [z] at z1; exact z1)
        rw [upd_ne this]
        exact z2
      exact (RepYs.same off _ (RepYs.same (nw_sameB hB hG S5) _ h2)).append (RepYs.cons (RepY.same off _ (RepY.same (nw_left t4) _ r5)) RepYs.nil)
    · rw [List.length_append, h3]; rfl
    · intro d' hd'
      rcases List.mem_append.mp hd' with z | z
      · exact h4 d' z
      · rw [List.mem_singleton.mp z]; exact ⟨d5, z5⟩
  · rintro σ' ys H4 ⟨_, S4, B4, h1, t4, ds, h2, h3, h4⟩
    have mul : cPl n * (r.toNat : Int) ≤ cPl n * 3 := Int.mul_le_mul_of_nonneg_left (by omega) (by omega)
    have hl : ys.length ≤ 900 := by omega
    have tU : ∀ a, (upd H2 p (.lst [])) a = none → H a = none := fun a ha => S12.back B2 a (s3.free ha)
    have h2' : RepYs (nw H H4) ds ys := RepYs.same (nw_left tU) _ h2
    have dd := depthYs_le fun d hd => (h4 d hd).1
    have dz := szYs_le fun d hd => (h4 d hd).2
    have dl := h2.length
    refine ⟨_, rfl, rfl, _, rfl, ite2 (fun _ => ?_) (fun _ => ?_)⟩
    · exact ⟨_, rfl, q _ (.lst ds) _ (rep_lst (nw_of np h1) h2' hl) (by rw [depthY]; omega) (by rw [szY]; omega) (B4.mono (by omega)) S4⟩
    refine ⟨_, rfl, rfl, _, rfl, ite2 (fun _ => ?_) (fun _ => ?_)⟩
    · refine ⟨_, rfl, p, _, rfl, .inl ⟨SqL.of h1, fun t ht => ?_⟩⟩
      have s5 := same_new ht (.tup ys)
      exact q _ (.tup ds) _ (rep_tup (nw_of (S4.back B4 t ht) upd_same) (RepYs.same (nw_same s5) _ h2') hl) (by rw [depthY]; omega) (by rw [szY]; omega) ((B4.same s5).mono (by omega)) (S4.trans s5.sameB)
    · refine fun d0 hd0 => ?_
      have s5 := same_new hd0 (.dK [])
      have z0 := S4.back B4 d0 hd0
      obtain ⟨db, dg, dl⟩ := B4.free hd0
      have dp : d0 ≠ p := (ne_of_none h1 hd0).symm
      refine ⟨_, rfl, upd_same, [(.inr "a", .ref p)], rfl, (by show 1 ≤ 15; decide), ?_⟩
      have s6 : Same H4 (upd (upd H4 d0 (.dK [])) d0 (.dK (mergeK [] [(.inr "a", V.ref p)]))) := fun a o h => by
        have : a ≠ d0 := ne_of_none h hd0
        rw [upd_ne this, upd_ne this]
        exact h
      have e6 : mergeK [] [((.inr "a" : Key), V.ref p)] = [(.inr "a", V.ref p)] := rfl
      refine q _ (.da (.lst ds)) _ (rep_da (nw_of z0 (by rw [upd_same, e6])) (rep_lst (nw_of np (s6 _ _ h1)) (RepYs.same (nw_same s6) _ h2') hl)) (by rw [depthY, depthY]; omega) (by rw [szY, szY]; omega) ((B4.same s6).mono (by omega)) (S4.trans s6.sameB)
theorem sc_law_is_field : FnScope ["thing"] ["thing"] (defScope s_law_is_field) := ⟨rfl, rfl, rfl, by decide +kernel, rfl, by decide +kernel, by decide +kernel⟩
theorem ok_law_is_field {f : Addr} {fd : FuncData} (F : Fun K "_law_is_field" "_law_is_field" s_law_is_field f fd) (B : Bl mg) {aD t1 t2 t3 t4 t5 t6 t7 t8 : Addr} (De : Deeds K w mg aD t1 t2 t3 t4 t5 t6 t7 t8) (C_DEED_PARTS : mg "DEED_PARTS" = some (.ref aD)) {t_MOST_LETTERS : Tok} (C_MOST_LETTERS : mg "MOST_LETTERS" = some (.int 8 t_MOST_LETTERS))  : FnOk P w K mg base CX0 1 f fd ["thing"] (spLookD fieldY) := by
  refine F.ok sc_law_is_field (fun vs H Q E h => ?_) (fun cdv A outer s H vs Q E hr h => ?_)
  · obtain ⟨v, d, rfl, hd, q⟩ := h
    rfl
  obtain ⟨v, d, rfl, hd, q⟩ := h
  refine ⟨_, (pss_cons (ps_if (PW.pt (pw_or (pt_not (pt_val (pe_callB (call_isinst (n := "")) rfl B.isinstance_ bt_isinstance (pa_cons (pv 0) (pa_cons (pe_bltn (v := .ty "str") rfl B.str_ bt_str rfl) pa_nil))))) (pw_or (pt_cmpR op_lt (pe_callB call_len_str rfl B.len_ bt_len (pa_cons (pv 0) pa_nil)) pe_int (nomark _)) (pw_or1 (pt_cmpR op_gt (pe_callB call_len_str rfl B.len_ bt_len (pa_cons (pv 0) pa_nil)) pe_int (nomark _)))))) (pss_one (ps_ret pe_bl)) pss_nil)
      (pss_one (ps_ret (pe_cmpR (op_eqD (roomD_of hr)) (pe_lc (N' := ["sign"]) (js := [none]) rfl (capOk (N := ["thing"]) (outer := defScope s_law_is_field) (by decide +kernel)) (pi_str (pv 0)) (fun _ _ _ _ _ => (pg_name (i := 0) (show List.Nodup (["sign"] : List Str) by decide +kernel) rfl (Or.inl rfl))) (fun _ _ _ _ _ => pifs_one (pt_cmpR op_notIn_str (pv 0) pe_str (by with_unfolding_all rfl))) (fun _ _ _ _ _ => (pv 0))) (pe_lst pa_nil) (nomark _))))), ?_⟩
  cases d with
  | str x =>
    rw [RepY] at hd
    obtain ⟨rfl, hx⟩ := hd
    have qf : ∀ b, fieldS x = b → ∀ H', Same H H' → Q (.bl b) H' := fun b e H' s => by rw [← e]; exact q H' s
    refine ⟨_, rfl, _, "str", "str", true, rfl, .str x, rfl, _, rfl, iteF ⟨_, rfl, x, rfl, small (by omega), _, _, rfl, rfl, _, rfl, ?_⟩⟩
    by_cases l1 : (x.length : Int) < 1
    · rw [decide_eq_true l1]
      refine iteT (qf _ ?_ H (Same.refl _))
      unfold fieldS
      rw [decide_eq_false (show ¬ 1 ≤ x.length by omega)]
      rfl
    rw [decide_eq_false l1]
    refine iteF ⟨_, rfl, x, rfl, small (by omega), _, _, rfl, rfl, _, rfl, ?_⟩
    by_cases l8 : (8 : Int) < (x.length : Int)
    · rw [decide_eq_true l8]
      refine iteT (qf _ ?_ H (Same.refl _))
      unfold fieldS
      rw [decide_eq_false (show ¬ x.length ≤ 8 by omega), Bool.and_false]
      rfl
    rw [decide_eq_false l8]
    refine iteF ⟨_, rfl, x, rfl, fun p hp => ?_⟩
    have sl : (L2.signs x).length = x.length := by unfold L2.signs; rw [List.length_map, Array.length_toList]; rfl
    refine lc_itv (xs := L2.signs x) (fun i σ' ys H' => (∃ v, σ' = [v]) ∧ Same H H' ∧ H' p = some (.lst ys) ∧ ys = (((x.cps.toList.take i).filter fun c => !letterOk c).map fun c => (⟨#[c]⟩ : Str)).map V.str) ⟨⟨none, rfl⟩, same_new hp _, upd_same, rfl⟩ ?_ ?_ ?_
    · rintro i σ' ys H' hi ⟨_, _, h1, h2⟩
      refine ⟨h1, ?_⟩
      rw [h2, List.length_map, List.length_map]
      have := List.length_filter_le (fun c => !letterOk c) (x.cps.toList.take i)
      rw [List.length_take] at this
      exact small1000 (by omega)
    · rintro i y σ' ys H' N hy ⟨⟨v, rfl⟩, s, h1, h2⟩ hN
      unfold L2.signs at hy
      rw [List.getElem?_map] at hy
      cases hc : x.cps.toList[i]? with
      | none => rw [hc] at hy; cases hy
      | some c =>
        rw [hc] at hy
        obtain rfl : V.str ⟨#[c]⟩ = y := Option.some.inj hy
        refine ⟨_, rfl, _, _, rfl, rfl, _, rfl, ?_⟩
        rw [az_mem]
        cases hb : letterOk c with
        | true =>
          refine iteF (hN _ _ _ ⟨⟨_, rfl⟩, s, h1, ?_⟩)
          rw [h2, take_snoc hc, List.filter_append, List.filter_cons, if_neg (by rw [hb]; decide)]
          simp
        | false =>
          refine iteT ⟨_, rfl, h1, hN _ _ _ ⟨⟨_, rfl⟩, upd_off s hp, upd_same, ?_⟩⟩
          rw [h2, take_snoc hc, List.filter_append, List.filter_cons, if_pos (by rw [hb]; decide)]
          simp
    · rintro σ' ys H' ⟨_, s, h1, h2⟩
      refine ⟨sz0, fun e he => eqNilS (ts := (x.cps.toList.filter fun c => !letterOk c).map fun c => (⟨#[c]⟩ : Str)) (SqL.of (same_new he _ _ _ (by rw [h1, h2, List.take_of_length_le (by rw [sl]; exact Nat.le_of_eq (Array.length_toList ..))]))) (SqL.of upd_same) ?_⟩
      rw [filter_none]
      refine qf _ ?_ _ (s.trans (same_new he _))
      unfold fieldS
      rw [decide_eq_true (show 1 ≤ x.length by omega), decide_eq_true (show x.length ≤ 8 by omega)]
      rfl
  | _ => exact ⟨_, rfl, _, _, "str", false, rfl, hd.ty, rfl, _, rfl, iteT (q _ (Same.refl _))⟩
theorem sc_law_is_span : FnScope ["low", "high", "end"] ["low", "high"] (defScope s_law_is_span) := ⟨rfl, rfl, rfl, by decide +kernel, rfl, by decide +kernel, by decide +kernel⟩
theorem ok_law_is_span {f : Addr} {fd : FuncData} (F : Fun K "_law_is_span" "_law_is_span" s_law_is_span f fd) (B : Bl mg) {aD t1 t2 t3 t4 t5 t6 t7 t8 : Addr} (De : Deeds K w mg aD t1 t2 t3 t4 t5 t6 t7 t8) (C_DEED_PARTS : mg "DEED_PARTS" = some (.ref aD)) {t_MOST_LETTERS : Tok} (C_MOST_LETTERS : mg "MOST_LETTERS" = some (.int 8 t_MOST_LETTERS)) (G_law_whole : FnH P w K mg base 1 "_law_whole" ["found"] (spWhole K)) : FnOk P w K mg base CX0 2 f fd ["low", "high"] (spIsSp2) := by
  refine F.ok sc_law_is_span (fun vs H Q E h => ?_) (fun cdv A outer s H vs Q E hr h => ?_)
  · obtain ⟨v1, v2, d1, d2, rfl, r1, r2, q⟩ := h
    rfl
  obtain ⟨v1, v2, d1, d2, rfl, r1, r2, q⟩ := h
  refine ⟨_, (pss_cons (ps_for PassesOwn.never rfl (pi_list (pe_lst (pa_cons (pv 0) (pa_cons (pv 1) pa_nil)))) (pg_name (i := 2) sc_law_is_span.nd rfl (Or.inl rfl)) (pss_one (ps_if (PW.pt (pw_and (pt_cmp (pc_notN (pv 2))) (pw_and1 (pt_not (pt_val (pe_fn G_law_whole (hr.mono (by decide)) rfl (pa_cons (pv 2) pa_nil))))))) (pss_one (ps_ret pe_bl)) pss_nil)))
      (pss_one (ps_ret (pe_or (pe_cmp (pc_isN (pv 0))) (pe_or (pe_cmp (pc_isN (pv 1))) (pe_one (pe_cmpR op_le (pv 0) (pv 1) (nomark _)))))))), ?_⟩
  refine ⟨_, rfl, _, rfl, (by show 2 ≤ sizeLine; decide), fun p hp => ?_⟩
  have s0 := same_new hp (.lst [v1, v2])
  have p0 : (upd H p (.lst [v1, v2])) p = some (.lst [v1, v2]) := upd_same
  generalize upd H p (.lst [v1, v2]) = H0 at *
  have q0 : ∀ b, (endY d1 && endY d2 && leY d1 d2) = b → Q (.bl b) H0 := fun b e => by rw [← e]; exact q H0 s0
  have k1 := RepY.same s0 d1 r1
  have k2 := RepY.same s0 d2 r2
  refine ⟨p, rfl, ⟨_, SqL.of p0⟩, for_list (K := K) (a := p) (xs := [v1, v2]) (fun i σ H' => (∃ w, σ = [some v1, some v2, w]) ∧ H' = H0 ∧ (0 < i → endY d1 = true) ∧ (1 < i → endY d2 = true)) ⟨⟨none, rfl⟩, rfl, fun z => absurd z (by decide), fun z => absurd z (by decide)⟩ (fun i σ H' _ ⟨_, e, _⟩ => by rw [e]; exact SqL.of p0) ?_ ?_⟩
  · rintro i z σ H' hz ⟨⟨w, rfl⟩, rfl, e1, e2⟩
    obtain ⟨e, re, hF, hT⟩ : ∃ e, RepY H' e z ∧ (endY e = false → Q (.bl false) H') ∧ (endY e = true → (0 < i + 1 → endY d1 = true) ∧ (1 < i + 1 → endY d2 = true)) := by
      match i, hz with
      | 0, hz =>
        obtain rfl : v1 = z := Option.some.inj hz
        exact ⟨d1, k1, fun h => q0 _ (by rw [h]; rfl), fun h => ⟨fun _ => h, fun z => absurd z (by decide)⟩⟩
      | 1, hz =>
        obtain rfl : v2 = z := Option.some.inj hz
        exact ⟨d2, k2, fun h => q0 _ (by rw [h, Bool.and_false]; rfl), fun h => ⟨fun _ => e1 (by decide), fun _ => h⟩⟩
      | i + 2, hz => simp at hz
    have ty := RepY.ty (K := K) re
    cases e with
    | non =>
      rw [RepY] at re
      subst re
      exact ⟨_, rfl, _, rfl, iteF ⟨⟨_, rfl⟩, rfl, hT rfl⟩⟩
    | int n =>
      rw [RepY] at re
      subst re
      exact ⟨_, rfl, _, rfl, iteT ⟨_, rfl, _, "int", rfl, .int n, _, rfl, iteF ⟨⟨_, rfl⟩, rfl, hT rfl⟩⟩⟩
    | bl n => rw [RepY] at re; subst re; exact ⟨_, rfl, _, rfl, iteT ⟨_, rfl, _, "bool", rfl, .bl n, _, rfl, iteT (hF rfl)⟩⟩
    | str n => rw [RepY] at re; obtain ⟨rfl, _⟩ := re; exact ⟨_, rfl, _, rfl, iteT ⟨_, rfl, _, "str", rfl, .str n, _, rfl, iteT (hF rfl)⟩⟩
    | lst n => rw [RepY] at re; obtain ⟨c, us, rfl, hc, _⟩ := re; exact ⟨_, rfl, _, rfl, iteT ⟨_, rfl, _, "list", rfl, .lst hc, _, rfl, iteT (hF rfl)⟩⟩
    | tup n => rw [RepY] at re; obtain ⟨c, us, rfl, hc, _⟩ := re; exact ⟨_, rfl, _, rfl, iteT ⟨_, rfl, _, "tuple", rfl, .tup hc, _, rfl, iteT (hF rfl)⟩⟩
    | dic => rw [RepY] at re; obtain ⟨c, rfl, hc⟩ := re; exact ⟨_, rfl, _, rfl, iteT ⟨_, rfl, _, "dict", rfl, .dK hc, _, rfl, iteT (hF rfl)⟩⟩
    | da n => rw [RepY] at re; obtain ⟨c, u, rfl, hc, _⟩ := re; exact ⟨_, rfl, _, rfl, iteT ⟨_, rfl, _, "dict", rfl, .dK hc, _, rfl, iteT (hF rfl)⟩⟩
  · rintro σ H' ⟨⟨w, rfl⟩, rfl, e1, e2⟩
    have z1 := e1 (by show 0 < 2; decide)
    have z2 := e2 (by show 1 < 2; decide)
    refine ⟨_, rfl, _, rfl, ?_⟩
    cases d1 with
    | non =>
      rw [RepY] at r1
      subst r1
      exact iteT (q0 _ (by rw [z2]; rfl))
    | int m =>
      rw [RepY] at r1
      subst r1
      refine iteF ⟨_, rfl, _, rfl, ?_⟩
      cases d2 with
      | non =>
        rw [RepY] at r2
        subst r2
        exact iteT (q0 _ rfl)
      | int m2 =>
        rw [RepY] at r2
        subst r2
        exact iteF ⟨_, rfl, _, rfl, _, _, rfl, rfl, q0 _ rfl⟩
      | _ => cases z2
    | _ => cases z1
theorem sc_law_is_made : FnScope ["thing", "size", "k", "part"] ["thing", "size"] (defScope s_law_is_made) := ⟨rfl, rfl, rfl, by decide +kernel, rfl, by decide +kernel, by decide +kernel⟩
theorem ok_law_is_made {f : Addr} {fd : FuncData} (F : Fun K "_law_is_made" "_law_is_made" s_law_is_made f fd) (B : Bl mg) {aD t1 t2 t3 t4 t5 t6 t7 t8 : Addr} (De : Deeds K w mg aD t1 t2 t3 t4 t5 t6 t7 t8) (C_DEED_PARTS : mg "DEED_PARTS" = some (.ref aD)) {t_MOST_LETTERS : Tok} (C_MOST_LETTERS : mg "MOST_LETTERS" = some (.int 8 t_MOST_LETTERS)) (G_law_is_field : FnH P w K mg base 1 "_law_is_field" ["thing"] (spLookD fieldY)) (G_law_is_span : FnH P w K mg base 2 "_law_is_span" ["low", "high"] (spIsSp2)) (G_law_whole : FnH P w K mg base 1 "_law_whole" ["found"] (spWhole K)) : FnOk P w K mg base CX0 3 f fd ["thing", "size"] (spMade) := by
  refine F.ok sc_law_is_made (fun vs H Q E h => ?_) (fun cdv A outer s H vs Q E hr h => ?_)
  · obtain ⟨v, d, k, rfl, hk, hd, q⟩ := h
    rfl
  obtain ⟨v, d, k, rfl, hk, hd, q⟩ := h
  refine ⟨_, (pss_cons (ps_if (pt_not (pt_val (pe_callB (call_isinst (n := "")) rfl B.isinstance_ bt_isinstance (pa_cons (pv 0) (pa_cons (pe_bltn (v := .ty "tuple") rfl B.tuple_ bt_tuple rfl) pa_nil))))) (pss_one (ps_ret pe_bl)) pss_nil)
      (pss_cons (ps_for PassesOwn.never rfl (pi_range1 rfl B.range_ (pa_cons (pe_callB call_len_seq rfl B.len_ bt_len (pa_cons (pv 0) pa_nil)) pa_nil)) (pg_name (i := 2) sc_law_is_made.nd rfl (Or.inl rfl)) (pss_cons (ps_set (i := 3) sc_law_is_made.nd rfl (Or.inl rfl) (pe_ix ix_tup (pv 0) (pv 2) (fun _ _ => rfl)))
      (pss_cons (ps_if (PW.pt (pw_or (pt_not (pt_val (pe_callB (call_isinst (n := "")) rfl B.isinstance_ bt_isinstance (pa_cons (pv 3) (pa_cons (pe_bltn (v := .ty "tuple") rfl B.tuple_ bt_tuple rfl) pa_nil))))) (pw_or (pt_cmpR op_ne (pe_callB call_len_seq rfl B.len_ bt_len (pa_cons (pv 3) pa_nil)) (pv 1) (nomark _)) (pw_or1 (pt_not (pt_val (pe_fn G_law_is_field (hr.mono (by decide)) rfl (pa_cons (pe_ix ix_tup (pv 3) pe_int (fun _ _ => rfl)) pa_nil)))))))) (pss_one (ps_ret pe_bl)) pss_nil)
      (pss_cons (ps_if (PW.pt (pw_and (pt_cmpR op_gt (pv 2) pe_int (nomark _)) (pw_and1 (pt_not (pt_cmpR op_lt_str (pe_ix ix_tup (pe_ix ix_tup (pv 0) (pe_op op_sub (pv 2) pe_int) (fun _ _ => rfl)) pe_int (fun _ _ => rfl)) (pe_ix ix_tup (pv 3) pe_int (fun _ _ => rfl)) (nomark _)))))) (pss_one (ps_ret pe_bl)) pss_nil)
      (pss_one (ps_if (PW.pt (pw_or (PW.pt (pw_and (pt_cmpR op_eq (pv 1) pe_int (nomark _)) (pw_and1 (pt_not (pt_val (pe_fn G_law_is_span (hr.mono (by decide)) rfl (pa_cons (pe_ix ix_tup (pv 3) pe_int (fun _ _ => rfl)) (pa_cons (pe_ix ix_tup (pv 3) pe_int (fun _ _ => rfl)) pa_nil)))))))) (pw_or1 (PW.pt (pw_and (pt_cmpR op_eq (pv 1) pe_int (nomark _)) (pw_and1 (pt_not (pt_val (pe_fn G_law_whole (hr.mono (by decide)) rfl (pa_cons (pe_ix ix_tup (pv 3) pe_int (fun _ _ => rfl)) pa_nil)))))))))) (pss_one (ps_ret pe_bl)) pss_nil))))))
      (pss_one (ps_ret pe_bl)))), ?_⟩
  cases d with
  | tup ds =>
    have hd0 := hd
    rw [RepY] at hd
    obtain ⟨a, xs, rfl, ha, h9, hx⟩ := hd
    have hl := hx.length
    have qF : ∀ H', Same H H' → madeY k (.tup ds) = false → Q (.bl false) H' := fun H' s e => by rw [← e]; exact q H' s
    have fPart : ∀ i d, ds[i]? = some d → partY k d = false → madeY k (.tup ds) = false := fun i d e h => by
      show (ds.all (partY k) && ascY ds) = false
      have : ds.all (partY k) = false := List.all_eq_false.mpr ⟨d, List.mem_of_getElem? e, by rw [h]; exact Bool.false_ne_true⟩
      rw [this]
      rfl
    have fAsc : ∀ i, i + 1 < ds.length → ascB (ds.getD i .non) (ds.getD (i + 1) .non) = false → madeY k (.tup ds) = false := fun i hi h => by
      show (ds.all (partY k) && ascY ds) = false
      have : ascY ds = false := by
        rw [ascY_all]
        exact List.all_eq_false.mpr ⟨_, List.mem_map.mpr ⟨i, List.mem_range.mpr (by omega), rfl⟩, by rw [h]; exact Bool.false_ne_true⟩
      rw [this, Bool.and_false]
    refine ⟨_, rfl, _, "tuple", "tuple", true, rfl, .tup ha, rfl, _, rfl, iteF ?_⟩
    refine ⟨_, rfl, a, _, rfl, .inr (SqT.of ha), _, rfl, by omega, by omega, for_range (n := ((xs.length : Nat) : Int).toNat) (fun i σ H' => (∃ y2 y3, σ = [some (.ref a), some (.int k), y2, y3]) ∧ Same H H' ∧ (∀ j d, j < i → ds[j]? = some d → partY k d = true) ∧ ∀ j, j + 1 < i → ascB (ds.getD j .non) (ds.getD (j + 1) .non) = true) ⟨⟨none, none, rfl⟩, Same.refl _, fun j d h => absurd h (Nat.not_lt_zero _), fun j h => absurd h (Nat.not_lt_zero _)⟩ ?_ ?_⟩
    · rintro i σ H1 hi ⟨⟨y2, y3, rfl⟩, s1, hp, hA⟩
      have hi2 : i < ds.length := by omega
      obtain ⟨d, x, ed, ex, rd⟩ := hx.getD hi2
      have rd1 := RepY.same s1 d rd
      have e0 : (0 : Int) + (i : Int) = (i : Int) := by omega
      have hat : atI xs (0 + (i : Int)) = some x := by rw [e0]; exact atI_nat ex
      have eg : ds.getD i .non = d := by rw [List.getD_eq_getElem?_getD, ed]; rfl
      have bad : ∀ H', Same H1 H' → partY k d = false → Q (.bl false) H' := fun H' s e => qF H' (s1.trans s) (fPart i d ed e)
      refine ⟨_, rfl, _, rfl, a, _, _, _, rfl, rfl, SqT.of (s1 _ _ ha), hat, ?_⟩
      have notTup : (∀ es, d ≠ .tup es) → partY k d = false := fun h => by
        unfold partY
        cases d with
        | tup es => exact absurd rfl (h es)
        | _ => split <;> rfl
      have out : ∀ H', Same H1 H' → partY k d = true → (∀ j, j + 1 = i → ascB (ds.getD j .non) d = true) → (∃ y2 y3, ([some (.ref a), some (.int k), some (.int (0 + (i : Int))), some x] : L2.St) = [some (.ref a), some (.int k), y2, y3]) ∧ Same H H' ∧ (∀ j d, j < i + 1 → ds[j]? = some d → partY k d = true) ∧ ∀ j, j + 1 < i + 1 → ascB (ds.getD j .non) (ds.getD (j + 1) .non) = true := fun H' s e1 e2 => by
        refine ⟨⟨_, _, rfl⟩, s1.trans s, fun j d' hj e => ?_, fun j hj => ?_⟩
        · by_cases z : j = i
          · rw [z, ed] at e
            injection e with e
            rw [← e]
            exact e1
          · exact hp j d' (by omega) e
        · by_cases z : j + 1 = i
          · rw [z, eg]
            exact e2 j z
          · exact hA j (by omega)
      cases d with
      | tup es =>
        rw [RepY] at rd1
        obtain ⟨c, us, rfl, hc, _, hu⟩ := rd1
        have lu := hu.length
        refine ⟨_, rfl, _, "tuple", "tuple", true, rfl, .tup hc, rfl, _, rfl, iteF ⟨_, rfl, c, _, rfl, .inr (SqT.of hc), _, rfl, rfl, _, rfl, ?_⟩⟩
        by_cases hlen : (es.length : Int) = k
        · have e3 : V.int ((us.length : Nat) : Int) = V.int k := by rw [lu, hlen]
          rw [decide_eq_true e3]
          refine iteF ?_
          obtain ⟨f, r, rfl⟩ : ∃ f r, es = f :: r := by
            cases es with
            | nil => rcases hk with h | h <;> (rw [h] at hlen; cases hlen)
            | cons f r => exact ⟨f, r, rfl⟩
          have hu0 := hu
          rw [RepYs] at hu
          obtain ⟨uf, ur, rfl, rf, rr⟩ := hu
          refine ⟨_, rfl, c, _, 0, uf, rfl, rfl, SqT.of hc, at0, uf, f, rfl, rf, fun H2 s2 => ⟨_, rfl, ?_⟩⟩
          have badF : fieldY f = false → partY k (.tup (f :: r)) = false := fun h => by
            unfold partY
            rcases hk with rfl | rfl
            · rw [if_neg (by decide)]
              match r, hlen with
              | [m], _ => show (fieldY f && wholeY m) = false; rw [h]; rfl
            · rw [if_pos rfl]
              match r, hlen with
              | [m, m'], _ => show (fieldY f && spanY (.tup [m, m'])) = false; rw [h]; rfl
          cases hf : fieldY f with
          | false => exact iteT (bad H2 s2 (badF hf))
          | true =>
            obtain ⟨w, rfl, hw⟩ := fieldY_form hf
            rw [RepY] at rf
            obtain ⟨rfl, _⟩ := rf
            refine iteF ?_
            have hc2 := s2 _ _ hc
            have S2 := s1.trans s2
            dsimp only [tNext]
            refine z_if (fun bb H' => Same H2 H' ∧ (bb = true → madeY k (.tup ds) = false) ∧ (bb = false → ∀ j, j + 1 = i → ascB (ds.getD j .non) (.tup (.str w :: r)) = true)) (fun R hR => ?_) (fun H3 ⟨s3, h3, _⟩ => qF H3 (S2.trans s3) (h3 rfl)) (fun H3 ⟨s3, _, h3⟩ => ?_)
            · refine ⟨_, rfl, _, _, rfl, rfl, _, rfl, ite2 (fun h => ?_) (fun h => hR _ H2 ⟨Same.refl _, fun z => (Bool.false_ne_true z).elim, fun _ j z => absurd (decide_eq_true (show (0 : Int) < 0 + (i : Int) by omega)) h⟩)⟩
              have h : (0 : Int) < 0 + (i : Int) := of_decide_eq_true h
              obtain ⟨j, rfl⟩ : ∃ j, i = j + 1 := ⟨i - 1, by omega⟩
              obtain ⟨d', x', ed', ex', rd'⟩ := hx.getD (show j < ds.length by omega)
              have pd := hp j d' (by omega) ed'
              have hd' : (headS d').isSome = true := by
                unfold partY at pd
                split at pd
                · exact wpart_head pd
                · exact ppart_head pd
              obtain ⟨w', hw'⟩ := Option.isSome_iff_exists.mp hd'
              obtain ⟨c', t', rfl, hc'⟩ := head_rep (RepY.same S2 d' rd') hw'
              have e1 : (0 : Int) + ((j + 1 : Nat) : Int) - 1 = (j : Int) := by omega
              have hat' : atI xs ((0 : Int) + ((j + 1 : Nat) : Int) - 1) = some (.ref c') := by rw [e1]; exact atI_nat ex'
              have eg' : ds.getD j .non = d' := by rw [List.getD_eq_getElem?_getD, ed']; rfl
              refine ⟨_, rfl, _, rfl, _, _, rfl, rfl, a, _, _, _, rfl, rfl, SqT.of (S2 _ _ ha), hat', c', _, 0, _, rfl, rfl, SqT.of hc', at0, _, rfl, c, _, 0, _, rfl, rfl, SqT.of hc2, at0, _, _, rfl, rfl, _, rfl, ?_⟩
              have ea : ascB (ds.getD j .non) (.tup (.str w :: r)) = decide (w'.cps.toList < w.cps.toList) := by rw [eg']; exact ascB_of hw' rfl
              refine hR _ H2 ⟨Same.refl _, fun z => fAsc j hi2 ?_, fun z j' zj => ?_⟩
              · rw [eg, ea]
                simpa using z
              · obtain rfl : j' = j := by omega
                rw [ea]
                simpa using z
            · have hc3 := s3 _ _ hc2
              have S13 := s2.trans s3
              rcases hk with rfl | rfl
              · obtain ⟨m, rfl⟩ : ∃ m, r = [m] := by
                  match r, hlen with
                  | [m], _ => exact ⟨m, rfl⟩
                rw [RepYs] at rr
                obtain ⟨um, ur2, rfl, rm, rr⟩ := rr
                rw [RepYs] at rr
                subst rr
                have pe : partY 2 (.tup [.str w, m]) = wholeY m := by show (fieldS w && wholeY m) = wholeY m; rw [hw]; rfl
                refine ⟨_, rfl, rfl, _, rfl, iteF ⟨_, rfl, rfl, _, rfl, iteT ?_⟩⟩
                refine ⟨_, rfl, c, _, 1, um, rfl, rfl, SqT.of hc3, rfl, um, _, rfl, (RepY.same S13 m rm).ty, _, rfl, ?_⟩
                rw [wholeY_ty]
                cases hm : wholeY m with
                | false => exact iteT (bad H3 S13 (by rw [pe, hm]))
                | true => exact iteF (out H3 S13 (by rw [pe, hm]) (h3 rfl))
              · obtain ⟨m, m', rfl⟩ : ∃ m m', r = [m, m'] := by
                  match r, hlen with
                  | [m, m'], _ => exact ⟨m, m', rfl⟩
                obtain ⟨um, um', rfl, rm, rm'⟩ := rr.two
                have pe : partY 3 (.tup [.str w, m, m']) = (endY m && endY m' && leY m m') := by show (fieldS w && spanY (.tup [m, m'])) = _; rw [hw]; rfl
                refine ⟨_, rfl, rfl, _, rfl, iteT ?_⟩
                refine ⟨_, rfl, c, _, 1, um, rfl, rfl, SqT.of hc3, rfl, _, rfl, c, _, 2, um', rfl, rfl, SqT.of hc3, rfl, um, um', m, m', rfl, RepY.same S13 m rm, RepY.same S13 m' rm', fun H4 s4 => ⟨_, rfl, ?_⟩⟩
                cases hm : (endY m && endY m' && leY m m') with
                | false => exact iteT (bad H4 (S13.trans s4) (by rw [pe, hm]))
                | true => exact iteF ⟨_, rfl, rfl, _, rfl, iteF (out H4 (S13.trans s4) (by rw [pe, hm]) (h3 rfl))⟩
        · have e3 : ¬ V.int ((us.length : Nat) : Int) = V.int k := fun z => hlen (by injection z with z; omega)
          rw [decide_eq_false e3]
          refine iteT (bad H1 (Same.refl _) ?_)
          unfold partY
          rcases hk with rfl | rfl
          · rw [if_neg (by decide)]; exact ppart_len (by omega)
          · rw [if_pos rfl]; exact wpart_len (by omega)
      | _ => exact ⟨_, rfl, _, _, "tuple", false, rfl, rd1.ty, rfl, _, rfl, iteT (bad H1 (Same.refl _) (notTup fun es z => by cases z))⟩
    · rintro σ H1 ⟨_, s1, hp, hA⟩
      refine (show madeY k (.tup ds) = true → Q (.bl true) H1 from fun e => by rw [← e]; exact q H1 s1) ?_
      show (ds.all (partY k) && ascY ds) = true
      have h1 : ds.all (partY k) = true := List.all_eq_true.mpr fun d hd => by
        obtain ⟨j, hj⟩ := List.getElem?_of_mem hd
        exact hp j d (by have := (List.getElem?_eq_some_iff.mp hj).1; omega) hj
      have h2 : ascY ds = true := by
        rw [ascY_all]
        refine List.all_eq_true.mpr fun b hb => ?_
        obtain ⟨j, hj, rfl⟩ := List.mem_map.mp hb
        have := List.mem_range.mp hj
        exact hA j (by omega)
      rw [h1, h2]
      rfl
  | _ => exact ⟨_, rfl, _, _, "tuple", false, rfl, hd.ty, rfl, _, rfl, iteT (q _ (Same.refl _))⟩
theorem sc_law_copied : FnScope ["thing"] ["thing"] (defScope s_law_copied) := ⟨rfl, rfl, rfl, by decide +kernel, rfl, by decide +kernel, by decide +kernel⟩
theorem ok_law_copied {f : Addr} {fd : FuncData} (F : Fun K "_law_copied" "_law_copied" s_law_copied f fd) (B : Bl mg) {aD t1 t2 t3 t4 t5 t6 t7 t8 : Addr} (De : Deeds K w mg aD t1 t2 t3 t4 t5 t6 t7 t8) (C_DEED_PARTS : mg "DEED_PARTS" = some (.ref aD)) {t_MOST_LETTERS : Tok} (C_MOST_LETTERS : mg "MOST_LETTERS" = some (.int 8 t_MOST_LETTERS))  (M_self : mg "_law_copied" = some (.ref f)) : FnOk P w K mg base CX0 14 f fd ["thing"] (spUpTo 12 spCopN) := by
  have b_self := F.binds (ps := ["thing"]) fun _ _ _ _ _ _ us hl => match us, hl with | [_], _ => rfl
  refine upTo_ok (L := 0) (D := 12) (rec_fn F sc_law_copied b_self M_self 0 (spCopN) fun n sp0 hsp G_law_copied => ?_)
  refine F.ok sc_law_copied (fun vs H Q E h => ?_) (fun cdv A outer s H vs Q E hr h => ?_)
  · obtain ⟨v, d, rfl, hd, hn, q⟩ := h
    rfl
  obtain ⟨v, d, rfl, hd, hn, q⟩ := h
  refine ⟨_, (pss_cons (ps_if (pt_val (pe_callB (call_isinst (n := "")) rfl B.isinstance_ bt_isinstance (pa_cons (pv 0) (pa_cons (pe_bltn (v := .ty "list") rfl B.list_ bt_list rfl) pa_nil)))) (pss_one (ps_ret (pe_lc (N' := ["part"]) (js := [none]) rfl (capOk (N := ["thing"]) (outer := defScope s_law_copied) (by decide +kernel)) (pi_list (pv 0)) (fun _ _ _ _ _ => (pg_name (i := 0) (show List.Nodup (["part"] : List Str) by decide +kernel) rfl (Or.inl rfl))) (fun _ _ _ _ _ => pifs_nil) (fun _ _ _ _ _ => (pe_fn G_law_copied (hr.mono (by omega)) rfl (pa_cons (pv 0) pa_nil)))))) pss_nil)
      (pss_cons (ps_if (pt_val (pe_callB (call_isinst (n := "")) rfl B.isinstance_ bt_isinstance (pa_cons (pv 0) (pa_cons (pe_bltn (v := .ty "dict") rfl B.dict_ bt_dict rfl) pa_nil)))) (pss_one (ps_ret (pe_ifExp (pt_cmpR (op_neNil (roomD_of hr)) (pv 0) pe_dnewK (nomark _)) (pe_disp (pps_cons pe_str (pe_fn G_law_copied (hr.mono (by omega)) rfl (pa_cons (pe_dget (hu_of hr) (pv 0) pe_str (fun _ _ => rfl)) pa_nil)) pps_nil) rfl rfl (by simp) (by decide)) pe_dnewK))) pss_nil)
      (pss_one (ps_ret (pe_ifExp (pt_val (pe_callB (call_isinst (n := "")) rfl B.isinstance_ bt_isinstance (pa_cons (pv 0) (pa_cons (pe_bltn (v := .ty "tuple") rfl B.tuple_ bt_tuple rfl) pa_nil)))) (pe_callTy call_tuple_of rfl B.tuple_ bt_tuple (pa_cons (pe_lc (N' := ["part"]) (js := [none]) rfl (capOk (N := ["thing"]) (outer := defScope s_law_copied) (by decide +kernel)) (pi_tup (pv 0)) (fun _ _ _ _ _ => (pg_name (i := 0) (show List.Nodup (["part"] : List Str) by decide +kernel) rfl (Or.inl rfl))) (fun _ _ _ _ _ => pifs_nil) (fun _ _ _ _ _ => (pe_fn G_law_copied (hr.mono (by omega)) rfl (pa_cons (pv 0) pa_nil)))) pa_nil)) (pv 0)))))), ?_⟩
  cases d with
  | lst ds =>
    rw [RepY] at hd
    obtain ⟨a, xs, rfl, ha, h9, hx⟩ := hd
    obtain ⟨m, rfl⟩ : ∃ m, n = m + 1 := ⟨n - 1, by rw [depthY] at hn; omega⟩
    have e0 := hsp m rfl
    subst e0
    rw [depthY] at hn
    have hl := hx.length
    refine ⟨_, rfl, _, "list", "list", true, rfl, .lst ha, rfl, _, rfl, iteT ⟨_, rfl, a, rfl, ⟨_, SqL.of ha⟩, fun p hp => ?_⟩⟩
    refine lc_copyL (cap := []) ds xs m ha hx (by omega) (fun d hd => by have := depthYs_ge hd; omega) hp ?_ ?_ ?_ ?_
    · rfl
    · exact fun x H' R r => r
    · exact fun x d H' R r1 r2 r3 => ⟨_, rfl, x, d, rfl, r1, r2, r3⟩
    · exact fun H' ys s h1 h2 h3 => q _ _ (rep_lst (nw_of hp h1) h3 (by omega)) s
  | tup ds =>
    rw [RepY] at hd
    obtain ⟨a, xs, rfl, ha, h9, hx⟩ := hd
    obtain ⟨m, rfl⟩ : ∃ m, n = m + 1 := ⟨n - 1, by rw [depthY] at hn; omega⟩
    have e0 := hsp m rfl
    subst e0
    rw [depthY] at hn
    have hl := hx.length
    refine ⟨_, rfl, _, "tuple", "list", false, rfl, .tup ha, rfl, _, rfl, iteF ⟨_, rfl, _, "tuple", "dict", false, rfl, .tup ha, rfl, _, rfl, iteF ⟨_, rfl, _, "tuple", "tuple", true, rfl, .tup ha, rfl, _, rfl, iteT ⟨_, rfl, a, rfl, ⟨_, SqT.of ha⟩, fun p hp => ?_⟩⟩⟩⟩
    refine lc_copyT (cap := []) ds xs m ha hx (by omega) (fun d hd => by have := depthYs_ge hd; omega) hp ?_ ?_ ?_ ?_
    · rfl
    · exact fun x H' R r => r
    · exact fun x d H' R r1 r2 r3 => ⟨_, rfl, x, d, rfl, r1, r2, r3⟩
    · refine fun H' ys s h1 h2 h3 => ⟨p, ys, rfl, .inl ⟨SqL.of h1, fun t ht => ?_⟩⟩
      have s5 := same_new ht (.tup ys)
      exact q _ _ (rep_tup (nw_of (s.free ht) upd_same) (RepYs.same (nw_same s5) _ h3) (by omega)) (s.trans s5)
  | da d =>
    rw [RepY] at hd
    obtain ⟨a, u, rfl, ha, hu⟩ := hd
    obtain ⟨m, rfl⟩ : ∃ m, n = m + 1 := ⟨n - 1, by rw [depthY] at hn; omega⟩
    have e0 := hsp m rfl
    subst e0
    rw [depthY] at hn
    refine ⟨_, rfl, _, "dict", "list", false, rfl, .dK ha, rfl, _, rfl, iteF ⟨_, rfl, _, "dict", "dict", true, rfl, .dK ha, rfl, _, rfl, iteT ⟨_, rfl, fun d0 hd0 => ?_⟩⟩⟩
    have s1 := same_new hd0 (.dK [])
    refine ⟨a, d0, _, rfl, rfl, s1 _ _ ha, upd_same, _, rfl, iteT ?_⟩
    generalize upd H d0 (.dK []) = H1 at *
    refine fun p hp => ?_
    have s2 := same_new hp (.dK [])
    have t2 : ∀ b, (upd H1 p (.dK [])) b = none → H b = none := fun b hb => s1.free (s2.free hb)
    refine ⟨_, rfl, a, u, rfl, dget_a (s2 _ _ (s1 _ _ ha)), u, d, rfl, RepY.same s2 d (RepY.same s1 d hu), by omega, fun v' H3 r3 s3 => ?_⟩
    have p3 := s3 _ _ (show (upd H1 p (.dK [])) p = some (.dK []) from upd_same)
    refine ⟨p3, [(.inr "a", v')], rfl, (by show 1 ≤ 15; decide), ?_⟩
    have e6 : mergeK [] [((.inr "a" : Key), v')] = [(.inr "a", v')] := rfl
    rw [e6]
    have hP : (upd H1 p (.dK [])) p ≠ none := by rw [upd_same]; exact Option.some_ne_none _
    have off : Same (nw (upd H1 p (.dK [])) H3) (nw (upd H1 p (.dK [])) (upd H3 p (.dK [(.inr "a", v')]))) := nw_right fun b o z1 z2 => by
      have : b ≠ p := fun z => hP (by rw [z] at z1; exact z1)
      rw [upd_ne this]
      exact z2
    refine q _ _ (rep_da (nw_of (s1.free hp) upd_same) (RepY.same (nw_left t2) _ (RepY.same off _ r3))) fun b o hb => ?_
    have : b ≠ p := fun z => by rw [z, s1.free hp] at hb; cases hb
    rw [upd_ne this]
    exact s3 _ _ (s2 _ _ (s1 _ _ hb))
  | dic =>
    rw [RepY] at hd
    obtain ⟨a, rfl, ha⟩ := hd
    refine ⟨_, rfl, _, "dict", "list", false, rfl, .dK ha, rfl, _, rfl, iteF ⟨_, rfl, _, "dict", "dict", true, rfl, .dK ha, rfl, _, rfl, iteT ⟨_, rfl, fun d0 hd0 => ?_⟩⟩⟩
    have s1 := same_new hd0 (.dK [])
    refine ⟨a, d0, _, rfl, rfl, s1 _ _ ha, upd_same, _, rfl, iteF fun p hp => ?_⟩
    exact q _ _ (by rw [RepY]; exact ⟨p, rfl, nw_of (s1.free hp) upd_same⟩) (s1.trans (same_new hp _))
  | non =>
    rw [RepY] at hd
    subst hd
    exact ⟨_, rfl, _, "NoneType", "list", false, rfl, .non, rfl, _, rfl, iteF ⟨_, rfl, _, "NoneType", "dict", false, rfl, .non, rfl, _, rfl, iteF ⟨_, rfl, _, "NoneType", "tuple", false, rfl, .non, rfl, _, rfl, iteF ⟨_, rfl, q _ _ (by rw [RepY]) (Same.refl _)⟩⟩⟩⟩
  | bl x =>
    rw [RepY] at hd
    subst hd
    exact ⟨_, rfl, _, "bool", "list", false, rfl, .bl x, rfl, _, rfl, iteF ⟨_, rfl, _, "bool", "dict", false, rfl, .bl x, rfl, _, rfl, iteF ⟨_, rfl, _, "bool", "tuple", false, rfl, .bl x, rfl, _, rfl, iteF ⟨_, rfl, q _ _ (by rw [RepY]) (Same.refl _)⟩⟩⟩⟩
  | int x =>
    rw [RepY] at hd
    subst hd
    exact ⟨_, rfl, _, "int", "list", false, rfl, .int x, rfl, _, rfl, iteF ⟨_, rfl, _, "int", "dict", false, rfl, .int x, rfl, _, rfl, iteF ⟨_, rfl, _, "int", "tuple", false, rfl, .int x, rfl, _, rfl, iteF ⟨_, rfl, q _ _ (by rw [RepY]) (Same.refl _)⟩⟩⟩⟩
  | str x =>
    rw [RepY] at hd
    obtain ⟨rfl, hx⟩ := hd
    exact ⟨_, rfl, _, "str", "list", false, rfl, .str x, rfl, _, rfl, iteF ⟨_, rfl, _, "str", "dict", false, rfl, .str x, rfl, _, rfl, iteF ⟨_, rfl, _, "str", "tuple", false, rfl, .str x, rfl, _, rfl, iteF ⟨_, rfl, q _ _ (by rw [RepY]; exact ⟨rfl, hx⟩) (Same.refl _)⟩⟩⟩⟩
theorem sc_law_made : FnScope ["bag", "size", "most", "parts", "field", "span"] ["bag", "size"] (defScope s_law_made) := ⟨rfl, rfl, rfl, by decide +kernel, rfl, by decide +kernel, by decide +kernel⟩
theorem ok_law_made {f : Addr} {fd : FuncData} (F : Fun K "_law_made" "_law_made" s_law_made f fd) (B : Bl mg) {aD t1 t2 t3 t4 t5 t6 t7 t8 : Addr} (De : Deeds K w mg aD t1 t2 t3 t4 t5 t6 t7 t8) (C_DEED_PARTS : mg "DEED_PARTS" = some (.ref aD)) {t_MOST_LETTERS : Tok} (C_MOST_LETTERS : mg "MOST_LETTERS" = some (.int 8 t_MOST_LETTERS)) (G_law_fields : FnH P w K mg base 3 "_law_fields" ["bag", "most"] (spLF20)) (G_law_span : FnH P w K mg base 3 "_law_span" ["bag"] (spSpan1)) (G_law_draw : FnH P w K mg base 1 "_law_draw" ["bag", "many"] (spDraw)) (G_law_number : FnH P w K mg base 2 "_law_number" ["bag"] (spNum1)) : FnOk P w K mg base CX0 4 f fd ["bag", "size"] (spMade8) := by
  refine F.ok sc_law_made (fun vs H Q E h => ?_) (fun cdv A outer s H vs Q E hr h => ?_)
  · obtain ⟨b, g, l, n, k, rfl, hk, Bg, hn, q⟩ := h
    rfl
  obtain ⟨b, g, l, n, k, rfl, hk, Bg, hn, q⟩ := h
  refine ⟨_, (pss_cons (ps_set (i := 2) sc_law_made.nd rfl (Or.inl rfl) (pe_ifExp (pt_cmpR op_eq (pe_fn G_law_draw (hr.mono (by decide)) rfl (pa_cons (pv 0) (pa_cons pe_int pa_nil))) pe_int (nomark _)) pe_int pe_int))
      (pss_cons (ps_set (i := 3) sc_law_made.nd rfl (Or.inl rfl) (pe_lst pa_nil))
      (pss_cons (ps_for PassesOwn.never rfl (pi_list (pe_fn G_law_fields (hr.mono (by decide)) rfl (pa_cons (pv 0) (pa_cons (pv 2) pa_nil)))) (pg_name (i := 4) sc_law_made.nd rfl (Or.inl rfl)) (pss_cons (ps_set (i := 5) sc_law_made.nd rfl (Or.inl rfl) (pe_fn G_law_span (hr.mono (by decide)) rfl (pa_cons (pv 0) pa_nil)))
      (pss_one (ps_expr (pe_bm PySem.F.plainAttrs_list PySem.F.slot_list_append PySem.F.type_list_append mt_append (pv 3) (pa_cons (pe_ifExp (pt_cmpR op_eq (pv 1) pe_int (nomark _)) (pe_tup (pa_cons (pv 4) (pa_cons (pe_ix ix_tup (pv 5) pe_int (fun _ _ => rfl)) (pa_cons (pe_ix ix_tup (pv 5) pe_int (fun _ _ => rfl)) pa_nil)))) (pe_tup (pa_cons (pv 4) (pa_cons (pe_fn G_law_number (hr.mono (by decide)) rfl (pa_cons (pv 0) pa_nil)) pa_nil)))) pa_nil))))))
      (pss_one (ps_ret (pe_callTy call_tuple_of rfl B.tuple_ bt_tuple (pa_cons (pv 3) pa_nil))))))), ?_⟩
  refine z_join (fun σ' H' => ∃ most : Int, σ' = [some (.ref b), some (.int k), some (.int most), none, none, none] ∧ 0 ≤ most ∧ most ≤ 20 ∧ Bag H' b g l (n + 2) ∧ SameB b g H H') (fun Z hZ => ?_) ?_
  · refine ⟨_, rfl, b, g, l, _, 8, rfl, Bg, by omega, by decide, by decide, fun k H2 k0 k1 B2 S2 => ⟨rfl, _, rfl, ite2 (fun _ => ?_) (fun _ => ?_)⟩⟩
    · exact hZ _ _ ⟨9, rfl, by decide, by decide, B2.mono (by omega), S2⟩
    · exact hZ _ _ ⟨3, rfl, by decide, by decide, B2.mono (by omega), S2⟩
  rintro σ' H2 ⟨most, rfl, m0, m20, B2, S2⟩
  refine ⟨sz0, fun p hp => ?_⟩
  obtain ⟨pb, pg, pl⟩ := B2.free hp
  have np : H p = none := S2.back B2 p hp
  have s3 := same_new hp (.lst [])
  have hp3 : (upd H2 p (.lst [])) p = some (.lst []) := upd_same
  have B3 := B2.same s3
  have S3 := S2.trans s3.sameB (b := b) (g := g)
  generalize upd H2 p (.lst []) = H3 at *
  refine ⟨_, rfl, _, rfl, b, g, l, _, most, rfl, B3, by omega, m0, m20, fun r fs H4 nr er asc ok len B4 S4 => ?_⟩
  obtain ⟨rb, rg, _⟩ := B3.free nr
  have rp : r ≠ p := (ne_of_none hp3 nr).symm
  have hp4 := S4 _ _ hp3 pb pg
  refine ⟨r, rfl, ⟨_, SqL.of er⟩, for_list (K := K) (a := r) (xs := fs.map V.str) (fun i σ H' => ∃ y4 y5 ys ds, σ = [some (.ref b), some (.int k), some (.int most), some (.ref p), y4, y5] ∧ Bag H' b g l (n + 302 + 12 * (i : Int)) ∧ SameB b g H H' ∧ H' r = some (.lst (fs.map V.str)) ∧ H' p = some (.lst ys) ∧ (∀ a, H' a = none → H3 a = none) ∧ RepYs (nw H3 H') ds ys ∧ ys.length = i ∧ ∀ d ∈ ds, (depthY d ≤ 1 ∧ szY d ≤ 20)) ⟨none, none, [], [], rfl, B4.mono (by omega), S3.trans S4, er, hp4, S4.back B4, .nil, rfl, fun d hd => nomatch hd⟩ (fun i σ H' _ ⟨_, _, _, _, _, _, _, e, _⟩ => SqL.of e) ?_ ?_⟩
  · rintro i x σ H5 hx ⟨y4, y5, ys, ds, rfl, B5, S5, er5, hp5, t5, rs5, l5, ok5⟩
    rw [List.getElem?_map] at hx
    cases ef : fs[i]? with
    | none => rw [ef] at hx; cases hx
    | some f =>
      rw [ef] at hx
      obtain rfl : V.str f = x := Option.some.inj hx
      have fo := ok f (List.mem_of_getElem? ef)
      have hi20 : (i : Int) < 20 := by have := (List.getElem?_eq_some_iff.mp ef).1; omega
      refine ⟨_, rfl, b, g, l, _, rfl, B5, by omega, fun a lo hi H6 na ha u1 u2 B6 S6 => ?_⟩
      have hp6 := S6 _ _ hp5 pb pg
      have er6 := S6 _ _ er5 rb rg
      have t6 : ∀ a, H6 a = none → H3 a = none := fun a h => t5 a (S6.back B6 a h)
      have tP : H3 p ≠ none := by rw [hp3]; exact Option.some_ne_none _
      obtain ⟨tB, tG⟩ := B3.trk
      have rs6 := RepYs.same (nw_sameB tB tG S6) _ rs5
      have fin : ∀ (H7 : Hp) (t : Addr) (tv : HO) (d : DY), H7 p = some (.lst ys) → H7 r = some (.lst (fs.map V.str)) → H7 t = none → (∀ a, H7 a = none → H3 a = none) → RepYs (nw H3 H7) ds ys → Bag H7 b g l (n + 302 + 12 * (i : Int) + 12) → SameB b g H H7 → (depthY d ≤ 1 ∧ szY d ≤ 20) → (∀ H8 : Hp, H3 t = none → H8 t = some tv → RepY (nw H3 H8) d (.ref t)) →
          ∃ y4 y5 ys' ds', ([some (.ref b), some (.int k), some (.int most), some (.ref p), some (.str f), some (.ref a)] : L2.St) = [some (.ref b), some (.int k), some (.int most), some (.ref p), y4, y5] ∧ Bag (upd (upd H7 t tv) p (.lst (ys ++ [V.ref t]))) b g l (n + 302 + 12 * ((i + 1 : Nat) : Int)) ∧ SameB b g H (upd (upd H7 t tv) p (.lst (ys ++ [V.ref t]))) ∧ (upd (upd H7 t tv) p (.lst (ys ++ [V.ref t]))) r = some (.lst (fs.map V.str)) ∧ (upd (upd H7 t tv) p (.lst (ys ++ [V.ref t]))) p = some (.lst ys') ∧ (∀ a, (upd (upd H7 t tv) p (.lst (ys ++ [V.ref t]))) a = none → H3 a = none) ∧ RepYs (nw H3 (upd (upd H7 t tv) p (.lst (ys ++ [V.ref t])))) ds' ys' ∧ ys'.length = i + 1 ∧ ∀ d ∈ ds', (depthY d ≤ 1 ∧ szY d ≤ 20) := fun H7 t tv d hp7 er7 ht t7 rs7 B7 S7 od rd => by
        have s8 := same_new ht tv
        have tp : t ≠ p := (ne_of_none hp7 ht).symm
        have B8 := B7.same s8
        have off : Same (nw H3 (upd H7 t tv)) (nw H3 (upd (upd H7 t tv) p (.lst (ys ++ [V.ref t])))) := nw_right fun a o z1 z2 => by
          have : a ≠ p := fun z => tP (by rw [z] at z1; exact z1)
          rw [upd_ne this]
          exact z2
        refine ⟨_, _, ys ++ [V.ref t], ds ++ [d], rfl, (bag_off B8 pb pg pl).mono (by omega), sb_off (S7.trans s8.sameB) np, by rw [upd_ne rp]; exact s8 _ _ er7, upd_same, fun a h => ?_, ?_, by rw [List.length_append, l5]; rfl, fun e he => ?_⟩
        · have : a ≠ p := fun z => by rw [z, upd_same] at h; cases h
          rw [upd_ne this] at h
          exact t7 a (s8.free h)
        · exact (RepYs.same off _ (RepYs.same (nw_same s8) _ rs7)).append (.cons (rd _ (t7 t ht) (by rw [upd_ne tp]; exact upd_same)) .nil)
        · rcases List.mem_append.mp he with z | z
          · exact ok5 e z
          · rw [List.mem_singleton.mp z]; exact od
      refine ⟨_, rfl, .inl ⟨rfl, _, SqL.of hp6⟩, _, rfl, rfl, _, rfl, ?_⟩
      have lt : ys.length < sizeLine := by rw [l5]; exact small1000 (by omega)
      rcases hk with rfl | rfl
      rotate_left
      · refine iteT ⟨_, rfl, _, rfl, a, _, 0, _, rfl, rfl, SqT.of ha, rfl, _, rfl, a, _, 1, _, rfl, rfl, SqT.of ha, rfl, (by show 3 ≤ sizeLine; decide), fun t ht => ?_⟩
        refine ⟨p, _, _, rfl, rfl, same_new ht _ _ _ hp6, lt, ?_⟩
        refine fin H6 t (.tup [.str f, eV lo, eV hi]) (.tup [.str f, eD lo, eD hi]) hp6 er6 ht t6 rs6 (B6.mono (by omega)) (S5.trans S6) (part_w2 fo.eight) (fun H8 z1 z2 => rep_tup (nw_of z1 z2) (.cons (by rw [RepY]; exact ⟨rfl, by have := fo.eight; omega⟩) (.cons (repY_eV _ lo) (.cons (repY_eV _ hi) .nil))) (by show 3 ≤ 900; decide))
      · refine iteF ⟨_, rfl, _, rfl, b, g, l, _, rfl, B6, by omega, fun z H7 z0 z1 B7 S7 => ?_⟩
        refine ⟨(by show 2 ≤ sizeLine; decide), fun t ht => ?_⟩
        have hp7 := S7 _ _ hp6 pb pg
        refine ⟨p, _, _, rfl, rfl, same_new ht _ _ _ hp7, lt, ?_⟩
        refine fin H7 t (.tup [.str f, .int z]) (.tup [.str f, .int z]) hp7 (S7 _ _ er6 rb rg) ht (fun a h => t6 a (S7.back B7 a h)) (RepYs.same (nw_sameB tB tG S7) _ rs6) (B7.mono (by omega)) ((S5.trans S6).trans S7) (part_p2 fo.eight) (fun H8 z1 z2 => rep_tup (nw_of z1 z2) (.cons (by rw [RepY]; exact ⟨rfl, by have := fo.eight; omega⟩) (.cons (by rw [RepY]) .nil)) (by show 2 ≤ 900; decide))
  · rintro σ H5 ⟨y4, y5, ys, ds, rfl, B5, S5, er5, hp5, t5, rs5, l5, ok5⟩
    rw [List.length_map] at l5
    have dl := rs5.length
    refine ⟨_, rfl, p, _, rfl, .inl ⟨SqL.of hp5, fun t ht => ?_⟩⟩
    have s6 := same_new ht (.tup ys)
    have tH : ∀ a, H3 a = none → H a = none := S3.back B3
    refine q _ ds _ (rep_tup (nw_of (tH t (t5 t ht)) upd_same) (RepYs.same ((nw_left tH).trans (nw_same s6)) _ rs5) (by omega)) (dp_tup fun d hd => (ok5 d hd).1) (sz_tup (fun d hd => (ok5 d hd).2) (by omega)) ((B5.same s6).mono (by rw [List.length_map]; omega)) (S5.trans s6.sameB)
theorem sc_law_post : FnScope ["bag"] ["bag"] (defScope s_law_post) := ⟨rfl, rfl, rfl, by decide +kernel, rfl, by decide +kernel, by decide +kernel⟩
theorem ok_law_post {f : Addr} {fd : FuncData} (F : Fun K "_law_post" "_law_post" s_law_post f fd) (B : Bl mg) {aD t1 t2 t3 t4 t5 t6 t7 t8 : Addr} (De : Deeds K w mg aD t1 t2 t3 t4 t5 t6 t7 t8) (C_DEED_PARTS : mg "DEED_PARTS" = some (.ref aD)) {t_MOST_LETTERS : Tok} (C_MOST_LETTERS : mg "MOST_LETTERS" = some (.int 8 t_MOST_LETTERS)) (G_law_draw : FnH P w K mg base 1 "_law_draw" ["bag", "many"] (spDraw)) : FnOk P w K mg base CX0 2 f fd ["bag"] (spPost8) := by
  refine F.ok sc_law_post (fun vs H Q E h => ?_) (fun cdv A outer s H vs Q E hr h => ?_)
  · obtain ⟨b, g, l, n, rfl, Bg, hn, q⟩ := h
    rfl
  obtain ⟨b, g, l, n, rfl, Bg, hn, q⟩ := h
  refine ⟨_, (pss_one (ps_ret (pe_fn G_law_draw (hr.mono (by decide)) rfl (pa_cons (pv 0) (pa_cons (pe_ix ix_list (pe_lst (pa_cons pe_int (pa_cons pe_int (pa_cons pe_int (pa_cons (pe_op op_powB pe_int pe_int) (pa_cons (pe_op op_powB pe_int pe_int) pa_nil)))))) (pe_fn G_law_draw (hr.mono (by decide)) rfl (pa_cons (pv 0) (pa_cons pe_int pa_nil))) (fun _ _ => rfl)) pa_nil))))), ?_⟩
  refine ⟨_, rfl, _, _, rfl, rfl, pw10 (by decide) (by decide), _, _, rfl, rfl, pw10 (by decide) (by decide), (by show 5 ≤ sizeLine; decide), fun p hp => ?_⟩
  dsimp only
  rw [e15', e40]
  have s1 := same_new hp (.lst [V.int 24, V.int 24, V.int 24, V.int 1000000000000000, V.int T40])
  obtain ⟨pb, pg, _⟩ := Bg.free hp
  refine ⟨_, rfl, b, g, l, _, 5, rfl, Bg.same s1, by omega, by decide, by decide, fun k H2 k0 k1 B2 S2 => ?_⟩
  obtain ⟨v, hv, v0, v1⟩ : ∃ v, atI [V.int 24, V.int 24, V.int 24, V.int 1000000000000000, V.int T40] k = some (.int v) ∧ 0 < v ∧ v ≤ T40 := by
    have : k = 0 ∨ k = 1 ∨ k = 2 ∨ k = 3 ∨ k = 4 := by omega
    rcases this with rfl | rfl | rfl | rfl | rfl
    · exact ⟨24, rfl, by decide, by decide⟩
    · exact ⟨24, rfl, by decide, by decide⟩
    · exact ⟨24, rfl, by decide, by decide⟩
    · exact ⟨1000000000000000, rfl, by decide, by decide⟩
    · exact ⟨T40, rfl, by decide, by decide⟩
  have big : v < 2 ^ 500 := Int.lt_of_le_of_lt v1 (by decide)
  exact ⟨p, _, _, _, rfl, rfl, SqL.of (S2 p _ upd_same pb pg), hv, b, g, l, _, _, rfl, B2, by omega, v0, big, fun r H3 r0 r1 B3 S3 => q r H3 (B3.mono (by omega)) ((s1.sameB.trans S2).trans S3)⟩
theorem sc_law_good : FnScope ["bag", "word"] ["bag"] (defScope s_law_good) := ⟨rfl, rfl, rfl, by decide +kernel, rfl, by decide +kernel, by decide +kernel⟩
theorem ok_law_good {f : Addr} {fd : FuncData} (F : Fun K "_law_good" "_law_good" s_law_good f fd) (B : Bl mg) {aD t1 t2 t3 t4 t5 t6 t7 t8 : Addr} (De : Deeds K w mg aD t1 t2 t3 t4 t5 t6 t7 t8) (C_DEED_PARTS : mg "DEED_PARTS" = some (.ref aD)) {t_MOST_LETTERS : Tok} (C_MOST_LETTERS : mg "MOST_LETTERS" = some (.int 8 t_MOST_LETTERS)) (G_law_draw : FnH P w K mg base 1 "_law_draw" ["bag", "many"] (spDraw)) (G_law_field : FnH P w K mg base 2 "_law_field" ["bag"] (spLawField)) (G_law_post : FnH P w K mg base 2 "_law_post" ["bag"] (spPost8)) (G_law_made : FnH P w K mg base 4 "_law_made" ["bag", "size"] (spMade8)) : FnOk P w K mg base CX0 5 f fd ["bag"] (spGood8) := by
  refine F.ok sc_law_good (fun vs H Q E h => ?_) (fun cdv A outer s H vs Q E hr h => ?_)
  · obtain ⟨b, g, l, n, rfl, Bg, hn, q⟩ := h
    rfl
  obtain ⟨b, g, l, n, rfl, Bg, hn, q⟩ := h
  refine ⟨_, (pss_cons (ps_set (i := 1) sc_law_good.nd rfl (Or.inl rfl) (pe_ix ix_list (pe_lst (pa_strs rfl)) (pe_fn G_law_draw (hr.mono (by decide)) rfl (pa_cons (pv 0) (pa_cons pe_int pa_nil))) (fun _ _ => rfl)))
      (pss_cons (ps_if (pt_cmpR op_eq (pv 1) pe_str (nomark _)) (pss_one (ps_ret (pe_tup (pa_cons (pv 1) (pa_cons (pe_fn G_law_post (hr.mono (by decide)) rfl (pa_cons (pv 0) pa_nil)) (pa_cons (pe_fn G_law_made (hr.mono (by decide)) rfl (pa_cons (pv 0) (pa_cons pe_int pa_nil))) pa_nil)))))) pss_nil)
      (pss_cons (ps_if (pt_cmpR op_eq (pv 1) pe_str (nomark _)) (pss_one (ps_ret (pe_tup (pa_cons (pv 1) (pa_cons (pe_fn G_law_post (hr.mono (by decide)) rfl (pa_cons (pv 0) pa_nil)) pa_nil))))) pss_nil)
      (pss_cons (ps_if (pt_cmpR op_eq (pv 1) pe_str (nomark _)) (pss_one (ps_ret (pe_tup (pa_cons (pv 1) (pa_cons (pe_fn G_law_post (hr.mono (by decide)) rfl (pa_cons (pv 0) pa_nil)) (pa_cons (pe_fn G_law_post (hr.mono (by decide)) rfl (pa_cons (pv 0) pa_nil)) pa_nil)))))) pss_nil)
      (pss_cons (ps_if (pt_cmpR op_eq (pv 1) pe_str (nomark _)) (pss_one (ps_ret (pe_tup (pa_cons (pv 1) (pa_cons (pe_fn G_law_field (hr.mono (by decide)) rfl (pa_cons (pv 0) pa_nil)) pa_nil))))) pss_nil)
      (pss_one (ps_ret (pe_tup (pa_cons (pv 1) (pa_cons (pe_fn G_law_field (hr.mono (by decide)) rfl (pa_cons (pv 0) pa_nil)) (pa_cons (pe_ifExp (pt_cmpR op_in_seq (pv 1) (pe_lst (pa_cons pe_str (pa_cons pe_str pa_nil))) (by with_unfolding_all rfl)) (pe_fn G_law_post (hr.mono (by decide)) rfl (pa_cons (pv 0) pa_nil)) (pe_fn G_law_made (hr.mono (by decide)) rfl (pa_cons (pv 0) (pa_cons pe_int pa_nil)))) pa_nil))))))))))), ?_⟩
  refine ⟨(by show 8 ≤ sizeLine; decide), fun p hp => ?_⟩
  obtain ⟨W8, hW8⟩ : ∃ L : List Str, L = (["come", "go", "want", "unwant", "tell", "move", "grow", "step"] : List Str) := ⟨_, rfl⟩
  rw [← hW8]
  obtain ⟨L8, hL8⟩ : ∃ L, L = W8.map V.str := ⟨_, rfl⟩
  rw [← hL8]
  have hL8 : L8 = words8.map V.str := by rw [hL8, hW8]; rfl
  have s1 := same_new hp (.lst L8)
  have g1 : (upd H p (.lst L8)) p = some (.lst (words8.map V.str)) := by rw [upd_same, hL8]
  obtain ⟨pb, pg, _⟩ := Bg.free hp
  have B1 := Bg.same s1
  have S1 : SameB b g H (upd H p (.lst L8)) := s1.sameB
  clear hL8
  generalize upd H p (.lst L8) = H0 at *
  refine ⟨_, rfl, b, g, l, _, 8, rfl, B1, by omega, by decide, by decide, fun c H2 c0 c1 B2 S2 => ?_⟩
  obtain ⟨w', hat, hw⟩ := at_strs (l := words8) c0 c1
  have lw := words8_len w' hw
  refine ⟨p, _, _, _, rfl, rfl, SqL.of (S2 _ _ g1 pb pg), hat, ?_⟩
  have S02 := S1.trans S2
  have rw0 : ∀ H' : Hp, RepY H' (.str w') (.str w') := fun H' => by rw [RepY]; exact ⟨rfl, by omega⟩
  have zw : szY (.str w') ≤ 20 := by rw [szY]; omega
  have F1 : ∀ (H' : Hp) (v : V) (d : DY), Bag H' b g l (n + 800) → SameB b g H H' → RepY (hs (sBG b g) H') d v → depthY d ≤ 2 → szY d ≤ 20 → ∀ t, H' t = none → Q (.ref t) (upd H' t (.tup [.str w', v])) := fun H' v d B' S' r1 d1 z1 t ht => by
    have s5 := same_new ht (.tup [V.str w', v])
    obtain ⟨tb, tg, _⟩ := B'.free ht
    refine q _ [.str w', d] _ (rep_tup (hs_at upd_same (sBG_no tb tg)) (.cons (rw0 _) (.cons (RepY.same (hs_same s5) _ r1) .nil)) (by show 2 ≤ 900; decide)) (dp_tup fun e he => ?_) (sz_tup (fun e he => ?_) (by show 2 ≤ 20; decide)) (B'.same s5) (S'.trans s5.sameB)
    · rcases List.mem_cons.mp he with rfl | he
      · exact Nat.zero_le _
      · rw [List.mem_singleton.mp he]; exact d1
    · rcases List.mem_cons.mp he with rfl | he
      · exact zw
      · rw [List.mem_singleton.mp he]; exact z1
  have F2 : ∀ (H' : Hp) (v v' : V) (d d' : DY), Bag H' b g l (n + 800) → SameB b g H H' → RepY (hs (sBG b g) H') d v → depthY d ≤ 2 → szY d ≤ 20 → RepY (hs (sBG b g) H') d' v' → depthY d' ≤ 2 → szY d' ≤ 20 → ∀ t, H' t = none → Q (.ref t) (upd H' t (.tup [.str w', v, v'])) := fun H' v v' d d' B' S' r1 d1 z1 r2 d2 z2 t ht => by
    have s5 := same_new ht (.tup [V.str w', v, v'])
    obtain ⟨tb, tg, _⟩ := B'.free ht
    refine q _ [.str w', d, d'] _ (rep_tup (hs_at upd_same (sBG_no tb tg)) (.cons (rw0 _) (.cons (RepY.same (hs_same s5) _ r1) (.cons (RepY.same (hs_same s5) _ r2) .nil))) (by show 3 ≤ 900; decide)) (dp_tup fun e he => ?_) (sz_tup (fun e he => ?_) (by show 3 ≤ 20; decide)) (B'.same s5) (S'.trans s5.sameB)
    · rcases List.mem_cons.mp he with rfl | he
      · exact Nat.zero_le _
      · rcases List.mem_cons.mp he with rfl | he
        · exact d1
        · rw [List.mem_singleton.mp he]; exact d2
    · rcases List.mem_cons.mp he with rfl | he
      · exact zw
      · rcases List.mem_cons.mp he with rfl | he
        · exact z1
        · rw [List.mem_singleton.mp he]; exact z2
  have ri : ∀ (H' : Hp) (i : Int), RepY H' (.int i) (.int i) := fun H' i => by rw [RepY]
  refine ⟨_, rfl, rfl, _, rfl, ite2 (fun _ => ?_) (fun _ => ?_)⟩
  · refine ⟨_, rfl, _, rfl, b, g, l, _, rfl, B2, by omega, fun r H3 B3 S3 => ⟨_, rfl, b, g, l, _, 2, rfl, .inl rfl, B3, by omega, fun v ds H4 r4 d4 z4 B4 S4 => ⟨(by show 3 ≤ sizeLine; decide), ?_⟩⟩⟩
    exact F2 H4 _ _ (.int r) (.tup ds) (B4.mono (by omega)) ((S02.trans S3).trans S4) (ri _ _) (Nat.zero_le _) (Nat.zero_le _) (RepY.same (hs_nw (sBG_trk B3)) _ r4) d4 z4
  refine ⟨_, rfl, rfl, _, rfl, ite2 (fun _ => ?_) (fun _ => ?_)⟩
  · refine ⟨_, rfl, _, rfl, b, g, l, _, rfl, B2, by omega, fun r H3 B3 S3 => ⟨(by show 2 ≤ sizeLine; decide), ?_⟩⟩
    exact F1 H3 _ (.int r) (B3.mono (by omega)) (S02.trans S3) (ri _ _) (Nat.zero_le _) (Nat.zero_le _)
  refine ⟨_, rfl, rfl, _, rfl, ite2 (fun _ => ?_) (fun _ => ?_)⟩
  · refine ⟨_, rfl, _, rfl, b, g, l, _, rfl, B2, by omega, fun r H3 B3 S3 => ⟨_, rfl, b, g, l, _, rfl, B3, by omega, fun r' H4 B4 S4 => ⟨(by show 3 ≤ sizeLine; decide), ?_⟩⟩⟩
    exact F2 H4 _ _ (.int r) (.int r') (B4.mono (by omega)) ((S02.trans S3).trans S4) (ri _ _) (Nat.zero_le _) (Nat.zero_le _) (ri _ _) (Nat.zero_le _) (Nat.zero_le _)
  have rf : ∀ (H' : Hp) (x : Str), FieldOk x → RepY H' (.str x) (.str x) ∧ szY (.str x) ≤ 20 := fun H' x o => ⟨by rw [RepY]; exact ⟨rfl, by have := o.eight; omega⟩, by rw [szY]; have := o.eight; omega⟩
  refine ⟨_, rfl, rfl, _, rfl, ite2 (fun _ => ?_) (fun _ => ?_)⟩
  · refine ⟨_, rfl, _, rfl, b, g, l, _, rfl, B2, by omega, fun x H3 ok B3 S3 => ⟨(by show 2 ≤ sizeLine; decide), ?_⟩⟩
    exact F1 H3 _ (.str x) (B3.mono (by omega)) (S02.trans S3) (rf _ x ok).1 (Nat.zero_le _) (rf H3 x ok).2
  · refine ⟨_, rfl, _, rfl, b, g, l, _, rfl, B2, by omega, fun x H3 ok B3 S3 => ?_⟩
    refine ⟨_, rfl, (by show 2 ≤ sizeLine; decide), fun e he => ⟨e, _, rfl, .inl (SqL.of upd_same), rfl, rfl, _, rfl, ?_⟩⟩
    have s4 := same_new he (.lst [V.str "come", V.str "move"])
    have B4 := B3.same s4
    generalize upd H3 e (.lst [V.str "come", V.str "move"]) = H4 at *
    have S4 := (S02.trans S3).trans s4.sameB (b := b) (g := g)
    refine ite2 (fun _ => ?_) (fun _ => ?_)
    · refine ⟨_, rfl, b, g, l, _, rfl, B4, by omega, fun r H5 B5 S5 => ⟨(by show 3 ≤ sizeLine; decide), ?_⟩⟩
      exact F2 H5 _ _ (.str x) (.int r) (B5.mono (by omega)) (S4.trans S5) (rf _ x ok).1 (Nat.zero_le _) (rf H5 x ok).2 (ri _ _) (Nat.zero_le _) (Nat.zero_le _)
    · refine ⟨_, rfl, b, g, l, _, 3, rfl, .inr rfl, B4, by omega, fun v ds H5 r5 d5 z5 B5 S5 => ⟨(by show 3 ≤ sizeLine; decide), ?_⟩⟩
      exact F2 H5 _ _ (.str x) (.tup ds) (B5.mono (by omega)) (S4.trans S5) (rf _ x ok).1 (Nat.zero_le _) (rf H5 x ok).2 (RepY.same (hs_nw (sBG_trk B4)) _ r5) d5 z5
theorem sc_law_odd : FnScope ["bag", "part", "words", "some", "choice", "sign", "at"] ["bag", "part"] (defScope s_law_odd) := ⟨rfl, rfl, rfl, by decide +kernel, rfl, by decide +kernel, by decide +kernel⟩
@[irreducible] def hx_law_odd_0 : Expr := valOf ((defBody s_law_odd).getD 0 (.Pass ⟨0, 0, 0, 0⟩))
theorem pe_hx_law_odd_0 {X : Cx} : PE X hx_law_odd_0 (tLst (tStrs words12)) := by
  exact pe_strlist (by unfold hx_law_odd_0; rfl) rfl
theorem hb_law_odd : defBody s_law_odd = ((defBody s_law_odd).set 0 (setV ((defBody s_law_odd).getD 0 (.Pass ⟨0, 0, 0, 0⟩)) hx_law_odd_0)) := by
  unfold hx_law_odd_0
  rfl
theorem ok_law_odd {f : Addr} {fd : FuncData} (F : Fun K "_law_odd" "_law_odd" s_law_odd f fd) (B : Bl mg) {aD t1 t2 t3 t4 t5 t6 t7 t8 : Addr} (De : Deeds K w mg aD t1 t2 t3 t4 t5 t6 t7 t8) (C_DEED_PARTS : mg "DEED_PARTS" = some (.ref aD)) {t_MOST_LETTERS : Tok} (C_MOST_LETTERS : mg "MOST_LETTERS" = some (.int 8 t_MOST_LETTERS)) (G_law_draw : FnH P w K mg base 1 "_law_draw" ["bag", "many"] (spDraw)) (G_law_plain : FnH P w K mg base 6 "_law_plain" ["bag", "deep"] (spUpTo 2 spPlN)) : FnOk P w K mg base CX0 7 f fd ["bag", "part"] (spOdd8) := by
  refine F.ok sc_law_odd (fun vs H Q E h => ?_) (fun cdv A outer s H vs Q E hr h => ?_)
  · obtain ⟨b, g, l, n, v, d, rfl, Bg, hn, hd, hz, q⟩ := h
    rfl
  obtain ⟨b, g, l, n, v, d, rfl, Bg, hn, hd, hz, q⟩ := h
  rw [hb_law_odd]
  refine ⟨_, (pss_cons (ps_set (i := 2) sc_law_odd.nd rfl (Or.inl rfl) pe_hx_law_odd_0 (hs := by unfold hx_law_odd_0; rfl))
      (pss_cons (ps_set (i := 3) sc_law_odd.nd rfl (Or.inl rfl) pe_str)
      (pss_cons (ps_set (i := 4) sc_law_odd.nd rfl (Or.inl rfl) (pe_fn G_law_draw (hr.mono (by decide)) rfl (pa_cons (pv 0) (pa_cons pe_int pa_nil))))
      (pss_cons (ps_set (i := 5) sc_law_odd.nd rfl (Or.inl rfl) (pe_ix ix_str (pv 3) (pe_fn G_law_draw (hr.mono (by decide)) rfl (pa_cons (pv 0) (pa_cons (pe_callB call_len_str rfl B.len_ bt_len (pa_cons (pv 3) pa_nil)) pa_nil))) (fun _ _ => rfl)))
      (pss_cons (ps_if (pt_cmpR op_eq (pv 4) pe_int (nomark _)) (pss_one (ps_ret (pe_ix ix_list (pv 2) (pe_fn G_law_draw (hr.mono (by decide)) rfl (pa_cons (pv 0) (pa_cons pe_int pa_nil))) (fun _ _ => rfl)))) pss_nil)
      (pss_cons (ps_if (pt_cmpR op_eq (pv 4) pe_int (nomark _)) (pss_one (ps_ret (pe_ix ix_list (pe_lst (pa_cons (pe_un un_neg pe_int) (pa_cons (pe_op op_sub pe_int (pe_op op_powB pe_int pe_int)) (pa_cons pe_bl (pa_cons pe_bl (pa_cons (pe_tup pa_nil) (pa_cons (pe_op op_powB pe_int pe_int) pa_nil))))))) (pe_fn G_law_draw (hr.mono (by decide)) rfl (pa_cons (pv 0) (pa_cons pe_int pa_nil))) (fun _ _ => rfl)))) pss_nil)
      (pss_cons (ps_if (PW.pt (pw_and (pt_cmpR op_lt (pv 4) pe_int (nomark _)) (pw_and (pt_val (pe_callB (call_isinst (n := "")) rfl B.isinstance_ bt_isinstance (pa_cons (pv 1) (pa_cons (pe_bltn (v := .ty "str") rfl B.str_ bt_str rfl) pa_nil)))) (pw_and1 (pt_cmpR op_ne (pv 1) pe_str (nomark _)))))) (pss_cons (ps_set (i := 6) sc_law_odd.nd rfl (Or.inl rfl) (pe_fn G_law_draw (hr.mono (by decide)) rfl (pa_cons (pv 0) (pa_cons (pe_callB call_len_str rfl B.len_ bt_len (pa_cons (pv 1) pa_nil)) pa_nil))))
      (pss_one (ps_ret (pe_ix ix_list (pe_lst (pa_cons (pe_op op_add_str (pe_op op_add_str (pe_slice sl_str (pv 1) po_none (po_some (pv 6))) (pv 5)) (pe_slice sl_str (pv 1) (po_some (pe_op op_add (pv 6) pe_int)) po_none)) (pa_cons (pe_slice sl_str (pe_op op_mulS (pv 1) pe_int) po_none (po_some (pe_op op_add pe_int (pe_fn G_law_draw (hr.mono (by decide)) rfl (pa_cons (pv 0) (pa_cons pe_int pa_nil)))))) pa_nil))) (pe_op op_sub (pv 4) pe_int) (fun _ _ => rfl))))) pss_nil)
      (pss_one (ps_ret (pe_fn G_law_plain (hr.mono (by decide)) rfl (pa_cons (pv 0) (pa_cons pe_int pa_nil)))))))))))), ?_⟩
  refine ⟨(by show 12 ≤ sizeLine; decide), fun p hp => ?_⟩
  obtain ⟨L12, hL12⟩ : ∃ L, L = words12.map V.str := ⟨_, rfl⟩
  rw [← hL12]
  have s0 := same_new hp (.lst L12)
  have g0 : (upd H p (.lst L12)) p = some (.lst (words12.map V.str)) := by rw [upd_same, hL12]
  obtain ⟨pb, pg, _⟩ := Bg.free hp
  have B0 := Bg.same s0
  have S0 : SameB b g H (upd H p (.lst L12)) := s0.sameB
  clear hL12
  generalize upd H p (.lst L12) = H0 at *
  refine ⟨_, rfl, b, g, l, n, 6, rfl, B0, by omega, by decide, by decide, fun c H1 c0 c1 B1 S1 => ?_⟩
  refine ⟨_, rfl, _, rfl, _, rfl, _, rfl, (by decide +kernel), b, g, l, _, _, rfl, B1, by omega, (by decide +kernel), (by decide +kernel), fun r H2 r0 r1 B2 S2 => ?_⟩
  obtain ⟨cc, hcc⟩ := atI_in r0 r1
  refine ⟨_, _, cc, rfl, rfl, (by decide +kernel), hcc, ?_⟩
  have S02 := (S0.trans S1).trans S2
  have g2 := S2 _ _ (S1 _ _ g0 pb pg) pb pg
  have back : ∀ a, H2 a = none → H a = none := S02.back B2
  have sz : (1000 : Nat) ≤ sizeLine := by decide
  have fin : ∀ (z : Str) (H3 : Hp) (m : Int), z.length ≤ 2 * szY d + 20 → Bag H3 b g l m → m ≤ n + 90 → SameB b g H H3 → Q (.str z) H3 := fun z H3 m hz' B3 hm S3 => q _ (.str z) H3 (by rw [RepY]; exact ⟨rfl, by omega⟩) (Nat.zero_le _) (by rw [szY]; exact hz') (B3.mono hm) S3
  have one : (⟨#[cc]⟩ : Str).length = 1 := rfl
  refine ⟨_, rfl, rfl, _, rfl, ite2 (fun _ => ?_) (fun hc0 => ?_)⟩
  · refine ⟨_, rfl, _, rfl, b, g, l, _, 12, rfl, B2, by omega, by decide, by decide, fun j H3 j0 j1 B3 S3 => ?_⟩
    obtain ⟨w', hat, hw⟩ := at_strs (l := words12) j0 j1
    have lw := words12_len w' hw
    exact ⟨p, _, _, _, rfl, rfl, SqL.of (S3 _ _ g2 pb pg), hat, fin _ _ _ (by omega) B3 (by omega) (S02.trans S3)⟩
  refine ⟨_, rfl, rfl, _, rfl, ite2 (fun _ => ?_) (fun hc1 => ?_)⟩
  · refine ⟨_, rfl, _, _, rfl, rfl, pw10 (by decide) (by decide), _, _, rfl, rfl, (by show 0 ≤ sizeLine; decide), fun t ht => ?_⟩
    have s3 := same_new ht (.tup [])
    have t3 : (upd H2 t (.tup [])) t = some (.tup []) := upd_same
    obtain ⟨tb, tg, _⟩ := B2.free ht
    have B3 := B2.same s3
    generalize upd H2 t (.tup []) = H3 at *
    refine ⟨_, _, rfl, rfl, pw10 (by decide) (by decide), (by show 6 ≤ sizeLine; decide), fun e he => ?_⟩
    dsimp only
    obtain ⟨z14, hz14⟩ : ∃ z : Int, z = 10 ^ (14 : Int).toNat := ⟨_, rfl⟩
    rw [← hz14]
    clear hz14
    have s4 := same_new he (.lst [V.int (-1), V.int (0 - z14), V.bl true, V.bl false, V.ref t, V.int z14])
    have e4 : (upd H3 e (.lst [V.int (-1), V.int (0 - z14), V.bl true, V.bl false, V.ref t, V.int z14])) e = some (.lst [V.int (-1), V.int (0 - z14), V.bl true, V.bl false, V.ref t, V.int z14]) := upd_same
    obtain ⟨eb, eg, _⟩ := B3.free he
    have B4 := B3.same s4
    have t4 := s4 _ _ t3
    generalize upd H3 e (.lst [V.int (-1), V.int (0 - z14), V.bl true, V.bl false, V.ref t, V.int z14]) = H4 at *
    refine ⟨_, rfl, b, g, l, _, 6, rfl, B4, by omega, by decide, by decide, fun j H5 j0 j1 B5 S5 => ?_⟩
    have t5 := S5 _ _ t4 tb tg
    have S05 := S02.trans ((s3.trans s4).sameB.trans S5)
    obtain ⟨v', d', hv, rv, dv, zv⟩ : ∃ (v' : V) (d' : DY), atI [V.int (-1), V.int (0 - z14), V.bl true, V.bl false, V.ref t, V.int z14] j = some v' ∧ RepY (nw H H5) d' v' ∧ depthY d' ≤ 4 ∧ szY d' = 0 := by
      have : j = 0 ∨ j = 1 ∨ j = 2 ∨ j = 3 ∨ j = 4 ∨ j = 5 := by omega
      rcases this with rfl | rfl | rfl | rfl | rfl | rfl
      · exact ⟨_, .int (-1), rfl, by rw [RepY], Nat.zero_le _, rfl⟩
      · exact ⟨_, .int _, rfl, by rw [RepY], Nat.zero_le _, rfl⟩
      · exact ⟨_, .bl true, rfl, by rw [RepY], Nat.zero_le _, rfl⟩
      · exact ⟨_, .bl false, rfl, by rw [RepY], Nat.zero_le _, rfl⟩
      · exact ⟨_, .tup [], rfl, rep_tup (nw_of (back t ht) t5) .nil (by decide), by rw [depthY, depthYs]; decide, by rw [szY, szYs]; rfl⟩
      · exact ⟨_, .int _, rfl, by rw [RepY], Nat.zero_le _, rfl⟩
    exact ⟨e, _, _, _, rfl, rfl, SqL.of (S5 _ _ e4 eb eg), hv, q v' d' H5 rv dv (by omega) (B5.mono (by omega)) S05⟩
  have c2 : 2 ≤ c := by
    have h0 : c ≠ 0 := fun z => hc0 (decide_eq_true (by rw [z]))
    have h1 : c ≠ 1 := fun z => hc1 (decide_eq_true (by rw [z]))
    omega
  have ty2 : TyOf K H2 v (.type (tyY d)) := RepY.ty (RepY.same (hs_le _ _) d (RepY.same (hs_sameB (sBG_b b g) (sBG_g b g) S02) d hd))
  dsimp only [tNext]
  refine z_if (fun bb H' => H' = H2 ∧ (bb = true → c < 4 ∧ ∃ x, d = .str x ∧ v = .str x ∧ 0 < x.length)) (fun R hR => ?_) (fun H2' ⟨z2, h2⟩ => ?_) (fun H2' ⟨z2, _⟩ => ?_)
  · refine ⟨_, rfl, _, _, rfl, rfl, _, rfl, ite2 (fun h => ?_) (fun h => hR _ H2 ⟨rfl, fun z => (Bool.false_ne_true z).elim⟩)⟩
    refine ⟨_, rfl, _, _, "str", _, rfl, ty2, isStr_k K d, _, rfl, ?_⟩
    cases hs0 : isStr d with
    | false => exact iteF (hR _ H2 ⟨rfl, fun z => (Bool.false_ne_true z).elim⟩)
    | true =>
      obtain ⟨x, rfl⟩ := isStr_form hs0
      rw [RepY] at hd
      obtain ⟨rfl, _⟩ := hd
      refine iteT ⟨_, rfl, rfl, _, rfl, hR _ H2 ⟨rfl, fun z => ⟨of_decide_eq_true h, x, rfl, rfl, str_pos fun e => ?_⟩⟩⟩
      rw [e] at z
      exact absurd z (by decide +kernel)
  · subst z2
    obtain ⟨c4, x, rfl, rfl, xp⟩ := h2 rfl
    have hz0 : x.length ≤ 400 := by rw [szY] at hz; exact hz
    have fin' : ∀ (z : Str) (H3 : Hp) (m : Int), z.length ≤ 2 * x.length + 20 → Bag H3 b g l m → m ≤ n + 90 → SameB b g H H3 → Q (.str z) H3 := fun z H3 m h1 h2 h3 h4 => fin z H3 m (by rw [szY]; exact h1) h2 h3 h4
    have big : (x.length : Int) < 2 ^ 500 := Int.lt_of_lt_of_le (show (x.length : Int) < 1000 by omega) (by decide)
    refine ⟨_, rfl, _, rfl, x, rfl, small (by omega), b, g, l, _, _, rfl, B2, by omega, (by show (0 : Int) < (x.length : Int); omega), big, fun k H3 k0 k1 B3 S3 => ?_⟩
    refine ⟨_, rfl, _, rfl, _, rfl, x, rfl, by omega, fun z1 h1 _ => ?_⟩
    refine ⟨_, rfl, _, _, rfl, rfl, by omega, ?_⟩
    refine ⟨_, rfl, _, rfl, _, _, rfl, rfl, _, rfl, x, rfl, by omega, fun z2 h2 _ => ?_⟩
    refine ⟨_, _, rfl, rfl, (by rw [strLen_append]; omega), ?_⟩
    refine ⟨_, rfl, x, 9, rfl, rfl, by decide, by decide, by omega, fun z3 h3 => ?_⟩
    refine ⟨_, rfl, b, g, l, _, 2, rfl, B3, by omega, by decide, by decide, fun j H4 j0 j1 B4 S4 => ⟨_, _, rfl, rfl, _, rfl, z3, rfl, by omega, fun z4 h4 h5 => ?_⟩⟩
    have h6 := h5 (8 + j) rfl (by omega)
    refine ⟨(by show 2 ≤ sizeLine; decide), fun e he => ?_⟩
    obtain ⟨w', hat, lw⟩ : ∃ w' : Str, atI [V.str (z1 ++ ⟨#[cc]⟩ ++ z2), V.str z4] (c - 2) = some (.str w') ∧ w'.length ≤ 2 * x.length + 20 := by
      have : c = 2 ∨ c = 3 := by omega
      rcases this with rfl | rfl
      · exact ⟨_, rfl, by rw [strLen_append, strLen_append]; omega⟩
      · exact ⟨_, rfl, by omega⟩
    have s5 := same_new he (.lst [V.str (z1 ++ ⟨#[cc]⟩ ++ z2), V.str z4])
    exact ⟨_, rfl, _, _, rfl, rfl, e, _, _, _, rfl, rfl, SqL.of upd_same, hat, fin' _ _ _ lw (B4.same s5) (by omega) (((S02.trans S3).trans S4).trans s5.sameB)⟩
  · subst z2
    have cP2 : cPl 2 = 80 := rfl
    exact ⟨_, rfl, 2, by decide, b, g, l, _, rfl, B2, by omega, fun v' d' H3 r3 d3 z3 B3 S3 => q v' d' H3 (RepY.same (nw_left back) _ r3) (by omega) (by omega) (B3.mono (by omega)) (S02.trans S3)⟩
theorem sc_law_spoilt : FnScope ["bag", "thing", "choice", "at", "to", "parts"] ["bag", "thing"] (defScope s_law_spoilt) := ⟨rfl, rfl, rfl, by decide +kernel, rfl, by decide +kernel, by decide +kernel⟩
theorem ok_law_spoilt {f : Addr} {fd : FuncData} (F : Fun K "_law_spoilt" "_law_spoilt" s_law_spoilt f fd) (B : Bl mg) {aD t1 t2 t3 t4 t5 t6 t7 t8 : Addr} (De : Deeds K w mg aD t1 t2 t3 t4 t5 t6 t7 t8) (C_DEED_PARTS : mg "DEED_PARTS" = some (.ref aD)) {t_MOST_LETTERS : Tok} (C_MOST_LETTERS : mg "MOST_LETTERS" = some (.int 8 t_MOST_LETTERS)) (G_law_draw : FnH P w K mg base 1 "_law_draw" ["bag", "many"] (spDraw)) (G_law_odd : FnH P w K mg base 7 "_law_odd" ["bag", "part"] (spOdd8)) (M_self : mg "_law_spoilt" = some (.ref f)) : FnOk P w K mg base CX0 17 f fd ["bag", "thing"] (spUpTo 8 spSpo8) := by
  have b_self := F.binds (ps := ["bag", "thing"]) fun _ _ _ _ _ _ us hl => match us, hl with | [_, _], _ => rfl
  refine upTo_ok (L := 7) (D := 8) (rec_fn F sc_law_spoilt b_self M_self 7 (spSpo8) fun n sp0 hsp G_law_spoilt => ?_)
  refine F.ok sc_law_spoilt (fun vs H Q E h => ?_) (fun cdv A outer s H vs Q E hr h => ?_)
  · obtain ⟨b, g, l, nn, S, v, ds, m, rfl, Bg, hn, Sb, Sg, T, hd, hdp, hz, hm1, hm, q⟩ := h
    rfl
  obtain ⟨b, g, l, nn, S, v, ds, m, rfl, Bg, hn, Sb, Sg, T, hd, hdp, hz, hm1, hm, q⟩ := h
  refine ⟨_, (pss_cons (ps_set (i := 2) sc_law_spoilt.nd rfl (Or.inl rfl) (pe_fn G_law_draw (hr.mono (by omega)) rfl (pa_cons (pv 0) (pa_cons pe_int pa_nil))))
      (pss_cons (ps_set (i := 3) sc_law_spoilt.nd rfl (Or.inl rfl) (pe_fn G_law_draw (hr.mono (by omega)) rfl (pa_cons (pv 0) (pa_cons (pe_callB (call_max2 rfl) rfl B.max_ bt_max (pa_cons pe_int (pa_cons (pe_callB call_len_seq rfl B.len_ bt_len (pa_cons (pv 1) pa_nil)) pa_nil))) pa_nil))))
      (pss_cons (ps_set (i := 4) sc_law_spoilt.nd rfl (Or.inl rfl) (pe_fn G_law_draw (hr.mono (by omega)) rfl (pa_cons (pv 0) (pa_cons (pe_op op_add (pe_callB call_len_seq rfl B.len_ bt_len (pa_cons (pv 1) pa_nil)) pe_int) pa_nil))))
      (pss_cons (ps_set (i := 5) sc_law_spoilt.nd rfl (Or.inl rfl) (pe_callTy call_list_of rfl B.list_ bt_list (pa_cons (pv 1) pa_nil)))
      (pss_cons (ps_if (PW.pt (pw_or (pt_cmpR (op_eqE (roomD_of hr)) (pv 5) (pe_lst pa_nil) (nomark _)) (pw_or1 (pt_cmpR op_eq (pv 2) pe_int (nomark _))))) (pss_one (ps_expr (pe_bm PySem.F.plainAttrs_list PySem.F.slot_list_insert PySem.F.type_list_insert mt_insert (pv 5) (pa_cons (pv 4) (pa_cons (pe_fn G_law_odd (hr.mono (by omega)) rfl (pa_cons (pv 0) (pa_cons pe_str pa_nil))) pa_nil))))) (pss_one (ps_if (PW.pt (pw_and (pt_cmpR op_lt (pv 2) pe_int (nomark _)) (pw_and1 (pt_val (pe_callB (call_isinst (n := "")) rfl B.isinstance_ bt_isinstance (pa_cons (pe_ix ix_list (pv 5) (pv 3) (fun _ _ => rfl)) (pa_cons (pe_bltn (v := .ty "tuple") rfl B.tuple_ bt_tuple rfl) pa_nil))))))) (pss_one (ps_asg (pe_fn G_law_spoilt (hr.mono (by omega)) rfl (pa_cons (pv 0) (pa_cons (pe_ix ix_list (pv 5) (pv 3) (fun _ _ => rfl)) pa_nil))) (pg_sub (pv 5) (pv 3) set_list))) (pss_one (ps_if (pt_cmpR op_eq (pv 2) pe_int (nomark _)) (pss_one (ps_expr (pe_bm PySem.F.plainAttrs_list PySem.F.slot_list_insert PySem.F.type_list_insert mt_insert (pv 5) (pa_cons (pv 4) (pa_cons (pe_ix ix_list (pv 5) (pv 3) (fun _ _ => rfl)) pa_nil))))) (pss_one (ps_if (pt_cmpR op_eq (pv 2) pe_int (nomark _)) (pss_one (ps_expr (pe_bm PySem.F.plainAttrs_list PySem.F.slot_list_pop PySem.F.type_list_pop mt_popAt (pv 5) (pa_cons (pv 3) pa_nil)))) (pss_one (ps_if (pt_cmpR op_eq (pv 2) pe_int (nomark _)) (pss_one (ps_ret (pv 5))) (pss_one (ps_if (pt_cmpR op_eq (pv 2) pe_int (nomark _)) (pss_one (ps_expr (pe_bm0 PySem.F.plainAttrs_list PySem.F.slot_list_reverse PySem.F.type_list_reverse mt_reverse (pv 5)))) (pss_one (ps_asg (pe_fn G_law_odd (hr.mono (by omega)) rfl (pa_cons (pv 0) (pa_cons (pe_ix ix_list (pv 5) (pv 3) (fun _ _ => rfl)) pa_nil))) (pg_sub (pv 5) (pv 3) set_list))))))))))))))
      (pss_one (ps_ret (pe_callTy call_tuple_of rfl B.tuple_ bt_tuple (pa_cons (pv 5) pa_nil))))))))), ?_⟩
  have be0 : ∀ d ∈ ds, szY d ≤ m := fun d hd => sz_in hz hd
  have le := sz_len hz
  obtain ⟨j, rfl⟩ : ∃ j, n = j + 1 := ⟨n - 1, by rw [depthY] at hdp; omega⟩
  have e0 := hsp j rfl
  subst e0
  have bd : ∀ d ∈ ds, depthY d ≤ j := fun d hd => dp_in hdp hd
  have be : ∀ d ∈ ds, depthY d ≤ j ∧ szY d ≤ m := fun d hd => ⟨bd d hd, be0 d hd⟩
  rw [RepY] at hd
  obtain ⟨a, xs, rfl, ha, h9, hx⟩ := hd
  have lx := hx.length
  refine ⟨_, rfl, b, g, l, nn, 9, rfl, Bg, by omega, by decide, by decide, fun c H1 c0 c1 B1 S1 => ?_⟩
  have ha1 := SameB.tup Bg S1 (hs_some ha).2
  obtain ⟨M, hM, M0, M1, Mz⟩ : ∃ M : Int, M = (if (xs.length : Int) > 1 then (xs.length : Int) else 1) ∧ 0 < M ∧ M ≤ 1000 ∧ (xs ≠ [] → M = xs.length) := by
    refine ⟨_, rfl, by split <;> omega, by split <;> omega, fun h => ?_⟩
    have : 0 < xs.length := List.length_pos_iff.mpr h
    split <;> omega
  refine ⟨_, rfl, _, rfl, a, _, rfl, .inr (SqT.of ha1), _, _, rfl, ?_⟩
  dsimp only
  rw [← hM]
  have big : (xs.length : Int) + 1 < 2 ^ 500 := Int.lt_of_lt_of_le (show (xs.length : Int) + 1 < 1000 by omega) (by decide)
  have bigM' : M < 2 ^ 500 := Int.lt_of_le_of_lt M1 (by decide)
  refine ⟨b, g, l, _, M, rfl, B1, by omega, M0, bigM', fun k H2 k0 k1 B2 S2 => ?_⟩
  have S12 := S1.trans S2
  have ha2 := SameB.tup Bg S12 (hs_some ha).2
  obtain ⟨i, rfl⟩ := Int.eq_ofNat_of_zero_le k0
  refine ⟨_, rfl, _, rfl, a, _, rfl, .inr (SqT.of ha2), _, _, rfl, rfl, b, g, l, _, _, rfl, B2, by omega, (by show (0 : Int) < (xs.length : Int) + 1; omega), big, fun k2 H3 k20 k21 B3 S3 => ?_⟩
  have S13 := S12.trans S3
  have ha3 := SameB.tup Bg S13 (hs_some ha).2
  obtain ⟨u, rfl⟩ := Int.eq_ofNat_of_zero_le k20
  have hu : u ≤ xs.length := by have : ((u : Int)) < (xs.length : Int) + 1 := k21; omega
  refine ⟨_, rfl, a, _, rfl, .inr (SqT.of ha3), fun p hp => ?_⟩
  obtain ⟨pb, pg, pl⟩ := B3.free hp
  have np : H p = none := S13.back B3 p hp
  have T3 : Trk S H3 := T.back (S13.back B3)
  have rx4 : RepYs (hs (sAdd p S) (upd H3 p (.lst xs))) ds xs := RepYs.same (hs_add hp) _ (RepYs.same (hs_sameB Sb Sg S13) _ hx)
  have s4 := same_new hp (.lst xs)
  have hp4 : (upd H3 p (.lst xs)) p = some (.lst xs) := upd_same
  have B4 := B3.same s4
  have S4 := S13.trans s4.sameB (b := b) (g := g)
  have T4 : Trk S (upd H3 p (.lst xs)) := T3.same s4
  have U4 : Trk (sAdd p S) (upd H3 p (.lst xs)) := T3.add
  generalize upd H3 p (.lst xs) = H4 at *
  have Ub : sAdd p S b = true := sAdd_s Sb
  have Ug : sAdd p S g = true := sAdd_s Sg
  have hBG : ∀ x, sBG b g x = true → sAdd p S x = true := fun x h => by
    unfold sBG at h
    rcases Bool.or_eq_true_iff.mp h with h | h
    · rw [of_decide_eq_true h]; exact Ub
    · rw [of_decide_eq_true h]; exact Ug
  have FIN : ∀ (H' : Hp) (ys : List V) (es : List DY), RepYs (hs S H') es ys → ys.length ≤ 2 * m + 20 → (∀ d ∈ es, (depthY d ≤ j + 4 ∧ szY d ≤ 2 * m + 20)) → Bag H' b g l (nn + 100 * (((j + 1 : Nat) : Int) + 1)) → SameB b g H H' → Trk S H' → ∀ t, H' t = none → Q (.ref t) (upd H' t (.tup ys)) := fun H' ys es h2 hl hd B' S' T' t ht => by
    have s5 := same_new ht (.tup ys)
    have ld := h2.length
    exact q _ (.tup es) _ (rep_tup (hs_at upd_same (T'.new ht)) (RepYs.same (hs_same s5) _ h2) (by omega)) (by have := dp_tup fun d h => (hd d h).1; omega) (sz_tup (fun d h => (hd d h).2) (by omega)) (B'.same s5) (S'.trans s5.sameB)
  have be2 : ∀ d ∈ ds, (depthY d ≤ j + 4 ∧ szY d ≤ 2 * m + 20) := fun d hd => ⟨by have := (be d hd).1; omega, by have := (be d hd).2; omega⟩
  have e1 : (i : Int) + 1 = ((i + 1 : Nat) : Int) := by omega
  have cP1 : cPl 1 = 20 := rfl
  have cP2 : cPl 2 = 80 := rfl
  refine z_name ?_
  dsimp only
  refine z_if (fun bb H' => Same H4 H' ∧ (bb = false → xs ≠ [])) (fun R hR => ?_) (fun H5 ⟨s5, _⟩ => ?_) (fun H5 ⟨s5, h5⟩ => ?_)
  · refine ⟨_, rfl, sz0, fun e he => ⟨p, e, xs, rfl, rfl, same_new he _ _ _ hp4, upd_same, _, rfl, ?_⟩⟩
    have se := same_new he (.lst [])
    cases xs with
    | nil => exact iteT (hR _ _ ⟨se, fun z => (Bool.false_ne_true z.symm).elim⟩)
    | cons x xr => exact iteF ⟨_, rfl, rfl, _, rfl, hR _ _ ⟨se, fun _ z => by cases z⟩⟩
  · have B5 := B4.same s5
    have hp5 := s5 _ _ hp4
    have rx5 := RepYs.same (hs_same s5) _ rx4
    have U5 := U4.same s5
    have T5 := T4.same s5
    have S5 := S4.trans s5.sameB (b := b) (g := g)
    have sza : szY (.str "a") = 1 := by rw [szY]; decide +kernel
    refine ⟨_, rfl, .inl ⟨rfl, _, SqL.of hp5⟩, _, rfl, _, rfl, b, g, l, _, .str "a", .str "a", rfl, B5, by omega, by rw [RepY]; exact ⟨rfl, by decide +kernel⟩, by omega, fun v d H6 r6 d6 z6 B6 S6 => ?_⟩
    have hp6 := S6 _ _ hp5 pb pg
    refine ⟨p, _, u, v, rfl, rfl, hp6, hu, small1000 (by omega), ?_⟩
    refine ⟨_, rfl, p, _, rfl, .inl ⟨SqL.of upd_same, ?_⟩⟩
    have up : Same (hs (sAdd p S) H6) (hs S (upd H6 p (.lst (xs.take u ++ v :: xs.drop u)))) := (hs_upd (sAdd_p p S)).trans hs_drop
    have rx6 := RepYs.same (hs_sameB Ub Ug S6) _ rx5
    refine FIN _ _ (ds.take u ++ d :: ds.drop u) ((RepYs.same up _ (rx6.take u)).append (.cons (RepY.same up _ (RepY.same (hs_nw U5) _ r6)) (RepYs.same up _ (rx6.drop u)))) (by rw [List.length_append, List.length_cons, List.length_take, List.length_drop]; omega) (fun e he => ?_) ((bag_off B6 pb pg pl).mono (by omega)) (sb_off (S5.trans S6) np) ((T5.back (S6.back B6)).put)
    rcases List.mem_append.mp he with he | he
    · exact be2 e (List.mem_of_mem_take he)
    · rcases List.mem_cons.mp he with rfl | he
      · exact ⟨by omega, by omega⟩
      · exact be2 e (List.mem_of_mem_drop he)
  · have hne := h5 rfl
    have Me := Mz hne
    have hi : i < xs.length := by omega
    obtain ⟨di, xi, edi, exi, rdi⟩ := rx4.getD (show i < ds.length by omega)
    have hat : atI xs (i : Int) = some xi := atI_nat exi
    have hix : ixN xs.length (i : Int) = some i := by
      unfold ixN
      rw [if_pos (by omega), if_pos (by omega)]
      simp
    have B5 := B4.same s5
    have hp5 := s5 _ _ hp4
    have rx5 := RepYs.same (hs_same s5) _ rx4
    have U5 := U4.same s5
    have T5 := T4.same s5
    have S5 := S4.trans s5.sameB (b := b) (g := g)
    have rdi5 := RepY.same (hs_same s5) di rdi
    have bdi := be di (List.mem_of_getElem? edi)
    clear s5 h5
    generalize H4 = HX at *
    refine z_if (fun bb H' => H' = H5 ∧ (bb = true → ∃ es, di = .tup es)) (fun R hR => ?_) (fun H5' ⟨z5, h5⟩ => ?_) (fun H5' ⟨z5, _⟩ => ?_)
    · refine ⟨_, rfl, _, _, rfl, rfl, _, rfl, ite2 (fun h => ?_) (fun h => hR _ H5 ⟨rfl, fun z => (Bool.false_ne_true z).elim⟩)⟩
      exact ⟨_, rfl, _, rfl, p, _, _, _, rfl, rfl, SqL.of hp5, hat, _, _, "tuple", _, rfl, (RepY.same (hs_le _ _) di rdi5).ty, isTup_k K di, _, rfl, hR _ H5 ⟨rfl, fun z => isTup_form z⟩⟩
    · subst z5
      obtain ⟨es, rfl⟩ := h5 rfl
      refine ⟨_, rfl, _, rfl, _, rfl, p, _, _, _, rfl, rfl, SqL.of hp5, hat, b, g, l, _, sAdd p S, xi, es, m, rfl, B5, by omega, Ub, Ug, U5, rdi5, bdi.1, bdi.2, hm1, hm, fun v' d' H6 r6 o6 p6 B6 S6 => ?_⟩
      have hp6 := S6 _ _ hp5 pb pg
      refine ⟨_, rfl, _, rfl, p, _, _, i, rfl, rfl, hp6, hix, _, rfl, p, _, rfl, .inl ⟨SqL.of upd_same, ?_⟩⟩
      have up : Same (hs (sAdd p S) H6) (hs S (upd H6 p (.lst (xs.set i v')))) := (hs_upd (sAdd_p p S)).trans hs_drop
      have rx6 := RepYs.same (hs_sameB Ub Ug S6) _ rx5
      refine FIN _ _ (ds.set i d') (RepYs.same up _ (rx6.set r6 i)) (by rw [List.length_set]; omega) (fun e he => ?_) ((bag_off B6 pb pg pl).mono (by omega)) (sb_off (S5.trans S6) np) ((T5.back (S6.back B6)).put)
      rcases List.mem_or_eq_of_mem_set he with he | rfl
      · exact be2 e he
      · exact ⟨o6, p6⟩
    · subst z5
      refine ⟨_, rfl, rfl, _, rfl, ite2 (fun _ => ?_) (fun _ => ?_)⟩
      · refine ⟨_, rfl, .inl ⟨rfl, _, SqL.of hp5⟩, _, rfl, _, rfl, _, rfl, p, _, _, _, rfl, rfl, SqL.of hp5, hat, p, _, u, xi, rfl, rfl, hp5, hu, small1000 (by omega), ?_⟩
        refine ⟨_, rfl, p, _, rfl, .inl ⟨SqL.of upd_same, ?_⟩⟩
        have up : Same (hs (sAdd p S) H5') (hs S (upd H5' p (.lst (xs.take u ++ xi :: xs.drop u)))) := (hs_upd (sAdd_p p S)).trans hs_drop
        refine FIN _ _ (ds.take u ++ di :: ds.drop u) ((RepYs.same up _ (rx5.take u)).append (.cons (RepY.same up _ rdi5) (RepYs.same up _ (rx5.drop u)))) (by rw [List.length_append, List.length_cons, List.length_take, List.length_drop]; omega) (fun e he => ?_) ((bag_off B5 pb pg pl).mono (by omega)) (sb_off S5 np) T5.put
        rcases List.mem_append.mp he with he | he
        · exact be2 e (List.mem_of_mem_take he)
        · rcases List.mem_cons.mp he with rfl | he
          · exact be2 _ (List.mem_of_getElem? edi)
          · exact be2 e (List.mem_of_mem_drop he)
      refine ⟨_, rfl, rfl, _, rfl, ite2 (fun _ => ?_) (fun _ => ?_)⟩
      · refine ⟨_, rfl, .inl ⟨rfl, _, SqL.of hp5⟩, _, rfl, p, _, _, i, _, rfl, rfl, hp5, by omega, by omega, (ixN_seq hix).1, exi, ?_⟩
        have lE : (xs.eraseIdx i).length = xs.length - 1 := List.length_eraseIdx_of_lt hi
        refine ⟨_, rfl, p, _, rfl, .inl ⟨SqL.of upd_same, ?_⟩⟩
        have up : Same (hs (sAdd p S) H5') (hs S (upd H5' p (.lst (xs.eraseIdx i)))) := (hs_upd (sAdd_p p S)).trans hs_drop
        exact FIN _ _ (ds.eraseIdx i) (RepYs.same up _ (rx5.erase i)) (by omega) (fun e he => be2 e (List.mem_of_mem_eraseIdx he)) ((bag_off B5 pb pg pl).mono (by omega)) (sb_off S5 np) T5.put
      refine ⟨_, rfl, rfl, _, rfl, ite2 (fun _ => ?_) (fun _ => ?_)⟩
      · exact ⟨_, rfl, q _ (.lst ds) _ (rep_lst (hs_at hp5 (T3.new hp)) (RepYs.same hs_drop _ rx5) (by omega)) (by have := dp_lst fun d h => (be2 d h).1; omega) (sz_lst (fun d h => (be2 d h).2) (by omega)) (B5.mono (by omega)) S5⟩
      refine ⟨_, rfl, rfl, _, rfl, ite2 (fun _ => ?_) (fun _ => ?_)⟩
      · refine ⟨_, rfl, .inl ⟨rfl, _, SqL.of hp5⟩, p, _, rfl, rfl, hp5, ?_⟩
        refine ⟨_, rfl, p, _, rfl, .inl ⟨SqL.of upd_same, ?_⟩⟩
        have up : Same (hs (sAdd p S) H5') (hs S (upd H5' p (.lst xs.reverse))) := (hs_upd (sAdd_p p S)).trans hs_drop
        exact FIN _ _ ds.reverse (RepYs.same up _ rx5.rev) (by rw [List.length_reverse]; omega) (fun e he => be2 e (List.mem_reverse.mp he)) ((bag_off B5 pb pg pl).mono (by omega)) (sb_off S5 np) T5.put
      · refine ⟨_, rfl, _, rfl, _, rfl, p, _, _, _, rfl, rfl, SqL.of hp5, hat, b, g, l, _, xi, di, rfl, B5, by omega, RepY.same (hs_sub hBG) _ rdi5, by have := bdi.2; omega, fun v' d' H6 r6 d6 z6 B6 S6 => ?_⟩
        have hp6 := S6 _ _ hp5 pb pg
        refine ⟨_, rfl, _, rfl, p, _, _, i, rfl, rfl, hp6, hix, _, rfl, p, _, rfl, .inl ⟨SqL.of upd_same, ?_⟩⟩
        have up : Same (hs (sAdd p S) H6) (hs S (upd H6 p (.lst (xs.set i v')))) := (hs_upd (sAdd_p p S)).trans hs_drop
        have rx6 := RepYs.same (hs_sameB Ub Ug S6) _ rx5
        refine FIN _ _ (ds.set i d') (RepYs.same up _ (rx6.set (RepY.same (hs_nw U5) _ r6) i)) (by rw [List.length_set]; omega) (fun e he => ?_) ((bag_off B6 pb pg pl).mono (by omega)) (sb_off (S5.trans S6) np) ((T5.back (S6.back B6)).put)
        rcases List.mem_or_eq_of_mem_set he with he | rfl
        · exact be2 e he
        · have := bdi.2
          exact ⟨by omega, by omega⟩
theorem sc_law_is_deed : FnScope ["thing", "sizes", "word", "numbers", "k"] ["thing"] (defScope s_law_is_deed) := ⟨rfl, rfl, rfl, by decide +kernel, rfl, by decide +kernel, by decide +kernel⟩
@[irreducible] def hx_law_is_deed_0 : Expr := valOf ((defBody s_law_is_deed).getD 0 (.Pass ⟨0, 0, 0, 0⟩))
theorem pe_hx_law_is_deed_0 {X : Cx} : PE X hx_law_is_deed_0 (tDisp [(tC (.str "come"), tC (.int 3)), (tC (.str "go"), tC (.int 2)), (tC (.str "want"), tC (.int 3)), (tC (.str "unwant"), tC (.int 3)), (tC (.str "tell"), tC (.int 3)), (tC (.str "move"), tC (.int 3)), (tC (.str "grow"), tC (.int 2)), (tC (.str "step"), tC (.int 3))]) := by
  exact pe_dictSI (kvs := [("come", 3), ("go", 2), ("want", 3), ("unwant", 3), ("tell", 3), ("move", 3), ("grow", 2), ("step", 3)]) (by unfold hx_law_is_deed_0; rfl) rfl (by simp) (by decide)
@[irreducible] def hx_law_is_deed_4 : Expr := valOf ((defBody s_law_is_deed).getD 4 (.Pass ⟨0, 0, 0, 0⟩))
theorem pe_hx_law_is_deed_4 {X : Cx} : PE X hx_law_is_deed_4 (tDisp [(tC (.str "come"), tLst (tCons (tC (.int 2)) tNil)), (tC (.str "move"), tLst (tCons (tC (.int 2)) tNil)), (tC (.str "tell"), tLst (tCons (tC (.int 1)) tNil)), (tC (.str "grow"), tLst (tCons (tC (.int 1)) tNil)), (tC (.str "step"), tLst (tCons (tC (.int 1)) (tCons (tC (.int 2)) tNil)))]) := by
  exact pe_dictSL (kvs := [("come", [2]), ("move", [2]), ("tell", [1]), ("grow", [1]), ("step", [1, 2])]) (by unfold hx_law_is_deed_4; rfl) rfl (by simp) (by decide)
theorem hb_law_is_deed : defBody s_law_is_deed = (((defBody s_law_is_deed).set 0 (setV ((defBody s_law_is_deed).getD 0 (.Pass ⟨0, 0, 0, 0⟩)) hx_law_is_deed_0)).set 4 (setV ((defBody s_law_is_deed).getD 4 (.Pass ⟨0, 0, 0, 0⟩)) hx_law_is_deed_4)) := by
  unfold hx_law_is_deed_0 hx_law_is_deed_4
  rfl
theorem ok_law_is_deed {f : Addr} {fd : FuncData} (F : Fun K "_law_is_deed" "_law_is_deed" s_law_is_deed f fd) (B : Bl mg) {aD t1 t2 t3 t4 t5 t6 t7 t8 : Addr} (De : Deeds K w mg aD t1 t2 t3 t4 t5 t6 t7 t8) (C_DEED_PARTS : mg "DEED_PARTS" = some (.ref aD)) {t_MOST_LETTERS : Tok} (C_MOST_LETTERS : mg "MOST_LETTERS" = some (.int 8 t_MOST_LETTERS)) (G_law_is_made : FnH P w K mg base 3 "_law_is_made" ["thing", "size"] (spMade)) (G_law_is_field : FnH P w K mg base 1 "_law_is_field" ["thing"] (spLookD fieldY)) (G_law_whole : FnH P w K mg base 1 "_law_whole" ["found"] (spWhole K)) : FnOk P w K mg base CX0 4 f fd ["thing"] (spLookD deedY) := by
  refine F.ok sc_law_is_deed (fun vs H Q E h => ?_) (fun cdv A outer s H vs Q E hr h => ?_)
  · obtain ⟨v, d, rfl, hd, q⟩ := h
    rfl
  obtain ⟨v, d, rfl, hd, q⟩ := h
  rw [hb_law_is_deed]
  refine ⟨_, (pss_cons (ps_set (i := 1) sc_law_is_deed.nd rfl (Or.inl rfl) pe_hx_law_is_deed_0 (hs := by unfold hx_law_is_deed_0; rfl))
      (pss_cons (ps_if (PW.pt (pw_or (pt_not (pt_val (pe_callB (call_isinst (n := "")) rfl B.isinstance_ bt_isinstance (pa_cons (pv 0) (pa_cons (pe_bltn (v := .ty "tuple") rfl B.tuple_ bt_tuple rfl) pa_nil))))) (pw_or (pt_cmpR (op_eqU (roomD_of hr)) (pv 0) (pe_tup pa_nil) (nomark _)) (pw_or1 (pt_not (pt_val (pe_callB (call_isinst (n := "")) rfl B.isinstance_ bt_isinstance (pa_cons (pe_ix ix_tup (pv 0) pe_int (fun _ _ => rfl)) (pa_cons (pe_bltn (v := .ty "str") rfl B.str_ bt_str rfl) pa_nil))))))))) (pss_one (ps_ret pe_bl)) pss_nil)
      (pss_cons (ps_set (i := 2) sc_law_is_deed.nd rfl (Or.inl rfl) (pe_ix ix_tup (pv 0) pe_int (fun _ _ => rfl)))
      (pss_cons (ps_if (PW.pt (pw_or (pt_cmp (pc_dnotin (hu_of hr) (pv 2) (pv 1)) (by with_unfolding_all rfl)) (pw_or1 (pt_cmpR op_ne (pe_callB call_len_seq rfl B.len_ bt_len (pa_cons (pv 0) pa_nil)) (pe_dget (hu_of hr) (pv 1) (pv 2) (fun _ _ => rfl)) (nomark _))))) (pss_one (ps_ret pe_bl)) pss_nil)
      (pss_cons (ps_set (i := 3) sc_law_is_deed.nd rfl (Or.inl rfl) pe_hx_law_is_deed_4 (hs := by unfold hx_law_is_deed_4; rfl))
      (pss_cons (ps_for PassesOwn.never rfl (pi_list (pe_dget2 (hu_of hr) (pv 3) (pv 2) (pe_lst pa_nil) ⟨rfl, rfl, rfl, rfl⟩)) (pg_name (i := 4) sc_law_is_deed.nd rfl (Or.inl rfl)) (pss_one (ps_if (PW.pt (pw_or (pt_not (pt_val (pe_fn G_law_whole (hr.mono (by decide)) rfl (pa_cons (pe_ix ix_tup (pv 0) (pv 4) (fun _ _ => rfl)) pa_nil)))) (pw_or1 (pt_cmpR op_lt (pe_ix ix_tup (pv 0) (pv 4) (fun _ _ => rfl)) pe_int (nomark _))))) (pss_one (ps_ret pe_bl)) pss_nil)))
      (pss_cons (ps_if (PW.pt (pw_and (pt_cmpR op_in_seq (pv 2) (pe_lst (pa_strs rfl)) (by with_unfolding_all rfl)) (pw_and1 (pt_not (pt_val (pe_fn G_law_is_field (hr.mono (by decide)) rfl (pa_cons (pe_ix ix_tup (pv 0) pe_int (fun _ _ => rfl)) pa_nil))))))) (pss_one (ps_ret pe_bl)) pss_nil)
      (pss_cons (ps_if (pt_cmpR op_in_seq (pv 2) (pe_lst (pa_cons pe_str (pa_cons pe_str pa_nil))) (by with_unfolding_all rfl)) (pss_one (ps_ret (pe_fn G_law_is_made (hr.mono (by decide)) rfl (pa_cons (pe_ix ix_tup (pv 0) pe_int (fun _ _ => rfl)) (pa_cons pe_int pa_nil))))) pss_nil)
      (pss_one (ps_ret (pe_or (pe_cmpR op_ne (pv 2) pe_str (nomark _)) (pe_one (pe_fn G_law_is_made (hr.mono (by decide)) rfl (pa_cons (pe_ix ix_tup (pv 0) pe_int (fun _ _ => rfl)) (pa_cons pe_int pa_nil))))))))))))))), ?_⟩
  refine fun p hp => ⟨upd_same, sizesKV, rfl, (by show 8 ≤ 15; decide), ?_⟩
  rw [sizes_merge]
  have s1 : Same H (upd (upd H p (.dK [])) p (.dK sizesKV)) := fun b o h => by
    have : b ≠ p := ne_of_none h hp
    rw [upd_ne this, upd_ne this]
    exact h
  have p1 : (upd (upd H p (.dK [])) p (.dK sizesKV)) p = some (.dK sizesKV) := upd_same
  generalize upd (upd H p (.dK [])) p (.dK sizesKV) = H1 at *
  have hd1 := RepY.same s1 d hd
  cases d with
  | tup ds =>
    rw [RepY] at hd1
    obtain ⟨a, xs, rfl, ha, h9, hx⟩ := hd1
    have lx := hx.length
    refine ⟨_, rfl, _, "tuple", "tuple", true, rfl, .tup ha, rfl, _, rfl, iteF ⟨_, rfl, (by show 0 ≤ sizeLine; decide), fun e he => ⟨a, e, xs, rfl, rfl, same_new he _ _ _ ha, upd_same, _, rfl, ?_⟩⟩⟩
    have s2 := same_new he (.tup [])
    have ha2 := s2 _ _ ha
    have p2 := s2 _ _ p1
    have S2 := s1.trans s2
    generalize upd H1 e (.tup []) = H2 at *
    cases ds with
    | nil =>
      cases xs with
      | nil => exact iteT (q _ S2)
      | cons x xr => cases lx
    | cons d0 r =>
      cases xs with
      | nil => cases lx
      | cons x xr =>
        rw [RepYs] at hx
        obtain ⟨_, _, ee, r0, rr⟩ := hx
        injection ee with ee ee'
        subst ee ee'
        refine iteF ⟨_, rfl, a, _, 0, _, rfl, rfl, SqT.of ha2, at0, _, _, "str", _, rfl, (RepY.same s2 _ r0).ty, isStr_k K d0, _, rfl, ?_⟩
        cases hs0 : isStr d0 with
        | false =>
          refine iteT ?_
          rw [← deed_nil (r := r) hs0]
          exact q _ S2
        | true =>
          obtain ⟨w', rfl⟩ := isStr_form hs0
          rw [RepY] at r0
          obtain ⟨rfl, _⟩ := r0
          have qd : deedY (.tup (.str w' :: r)) = match kindsOf w' with
            | none => false
            | some ks => deedR ks r := rfl
          rw [qd] at q
          refine iteF ⟨_, rfl, a, _, 0, _, rfl, rfl, SqT.of ha2, at0, ?_⟩
          refine ⟨_, rfl, _, rfl, p, _, rfl, DGet.k (k := .inr w') p2, _, rfl, ?_⟩
          rw [sizes_look]
          cases hk : kindsOf w' with
          | none =>
            rw [hk] at q
            exact iteT (q _ S2)
          | some ks =>
            rw [hk] at q
            dsimp only at q
            have lr := rr.length
            have g2 : DGet H2 p (.str w') (some (.int (1 + (ks.length : Int)))) := by
              have := DGet.k (k := (.inr w' : Key)) p2
              rw [sizes_look, hk] at this
              exact this
            refine iteF ⟨_, rfl, a, _, rfl, .inr (SqT.of ha2), _, rfl, _, rfl, p, _, rfl, g2, rfl, _, rfl, ?_⟩
            have el : (V.int (((V.str w' :: xr).length : Nat) : Int) = V.int (1 + (ks.length : Int))) ↔ r.length = ks.length := by
              rw [List.length_cons]
              constructor
              · intro z; injection z with z; omega
              · intro z; rw [lr, z]; congr 1; omega
            by_cases hlen : r.length = ks.length
            · rw [decide_eq_true (el.mpr hlen)]
              have qL : ∀ b, deedL w' r = b → ∀ H', Same H H' → Q (.bl b) H' := fun b e H' s => by
                rw [← e, ← deed_all r hk hlen]
                exact q H' s
              obtain ⟨k1, kw, kt⟩ := two_of hk
              have nin := numsAt_in hk
              refine iteF fun p3 hp3 => ?_
              have s3 := same_new hp3 (.dK [])
              have e3 : (upd H2 p3 (.dK [])) p3 = some (.dK []) := upd_same
              have ha3 := s3 _ _ ha2
              generalize upd H2 p3 (.dK []) = H3 at *
              refine ⟨(by show 1 ≤ sizeLine; decide), fun l1 hl1 => ?_⟩
              have t1 := same_new hl1 (.lst [V.int 2])
              have f1 : (upd H3 l1 (.lst [V.int 2])) l1 = some (.lst [V.int 2]) := upd_same
              generalize upd H3 l1 (.lst [V.int 2]) = H4 at *
              refine ⟨(by show 1 ≤ sizeLine; decide), fun l2 hl2 => ?_⟩
              have t2 := same_new hl2 (.lst [V.int 2])
              have f2 : (upd H4 l2 (.lst [V.int 2])) l2 = some (.lst [V.int 2]) := upd_same
              generalize upd H4 l2 (.lst [V.int 2]) = H5 at *
              refine ⟨(by show 1 ≤ sizeLine; decide), fun l3 hl3 => ?_⟩
              have t3 := same_new hl3 (.lst [V.int 1])
              have f3 : (upd H5 l3 (.lst [V.int 1])) l3 = some (.lst [V.int 1]) := upd_same
              generalize upd H5 l3 (.lst [V.int 1]) = H6 at *
              refine ⟨(by show 1 ≤ sizeLine; decide), fun l4 hl4 => ?_⟩
              have t4 := same_new hl4 (.lst [V.int 1])
              have f4 : (upd H6 l4 (.lst [V.int 1])) l4 = some (.lst [V.int 1]) := upd_same
              generalize upd H6 l4 (.lst [V.int 1]) = H7 at *
              refine ⟨(by show 2 ≤ sizeLine; decide), fun l5 hl5 => ?_⟩
              have t5 := same_new hl5 (.lst [V.int 1, V.int 2])
              have f5 : (upd H7 l5 (.lst [V.int 1, V.int 2])) l5 = some (.lst [V.int 1, V.int 2]) := upd_same
              generalize upd H7 l5 (.lst [V.int 1, V.int 2]) = H8 at *
              have T38 : Same H3 H8 := t1.trans (t2.trans (t3.trans (t4.trans t5)))
              refine ⟨T38 _ _ e3, numsKV l1 l2 l3 l4 l5, rfl, (by show 5 ≤ 15; decide), ?_⟩
              rw [nums_merge]
              have e8 := T38 _ _ e3
              have n1 : ∀ {x : Addr} {xs : List V}, H8 x = some (.lst xs) → (upd H8 p3 (.dK (numsKV l1 l2 l3 l4 l5))) x = some (.lst xs) := fun {x xs} h => by
                have : x ≠ p3 := ne_of h e8 (by intro z; cases z)
                rw [upd_ne this]
                exact h
              have g1 := n1 (t5 _ _ (t4 _ _ (t3 _ _ (t2 _ _ f1))))
              have g2' := n1 (t5 _ _ (t4 _ _ (t3 _ _ f2)))
              have g3 := n1 (t5 _ _ (t4 _ _ f3))
              have g4 := n1 (t5 _ _ f4)
              have g5 := n1 f5
              have s9 : Same H2 (upd H8 p3 (.dK (numsKV l1 l2 l3 l4 l5))) := fun b o h => by
                have : b ≠ p3 := ne_of_none h hp3
                rw [upd_ne this]
                exact T38 _ _ (s3 _ _ h)
              have g9 : (upd H8 p3 (.dK (numsKV l1 l2 l3 l4 l5))) p3 = some (.dK (numsKV l1 l2 l3 l4 l5)) := upd_same
              generalize upd H8 p3 (.dK (numsKV l1 l2 l3 l4 l5)) = H9 at *
              refine ⟨_, rfl, p3, rfl, .inl ⟨_, .inl g9⟩, _, rfl, sz0, fun e2 he2 => ⟨_, DGet.k (k := .inr w') (same_new he2 _ _ _ g9), ?_⟩⟩
              have sA := same_new he2 (.lst [])
              have eA : (upd H9 e2 (.lst [])) e2 = some (.lst []) := upd_same
              generalize upd H9 e2 (.lst []) = HA at *
              obtain ⟨lx', exx, hlx⟩ := nums_list w' (sA _ _ g1) (sA _ _ g2') (sA _ _ g3) (sA _ _ g4) (sA _ _ g5) eA
              rw [exx]
              have SA : Same H HA := S2.trans (s9.trans sA)
              have haA := sA _ _ (s9 _ _ ha2)
              have rrA : RepYs HA r xr := RepYs.same (s2.trans (s9.trans sA)) _ rr
              have item : ∀ k : Int, 1 ≤ k → k ≤ (ks.length : Int) → ∃ y, atI (V.str w' :: xr) k = some y ∧ RepY HA (r.getD (k.toNat - 1) .non) y := fun k h1 h2 => by
                obtain ⟨m, rfl⟩ := Int.eq_ofNat_of_zero_le (show (0 : Int) ≤ k by omega)
                obtain ⟨m, rfl⟩ : ∃ m', m = m' + 1 := ⟨m - 1, by omega⟩
                obtain ⟨dd, y, e1, e2, e3⟩ := rrA.getD (show m < r.length by omega)
                refine ⟨y, atI_nat (by rw [List.getElem?_cons_succ]; exact e2), ?_⟩
                rw [Int.toNat_natCast, Nat.add_sub_cancel, List.getD_eq_getElem?_getD, e1]
                exact e3
              refine ⟨lx', rfl, ⟨_, SqL.of hlx⟩, for_list (K := K) (a := lx') (xs := (numsAt w').map V.int) (fun i σ H' => (∃ y4, σ = [some (.ref a), some (.ref p), some (.str w'), some (.ref p3), y4]) ∧ H' = HA ∧ ∀ k ∈ (numsAt w').take i, natY (r.getD (k.toNat - 1) .non) = true) ⟨⟨_, rfl⟩, rfl, fun k hk => by rw [List.take_zero] at hk; cases hk⟩ (fun i σ H' _ ⟨_, e, _⟩ => by rw [e]; exact SqL.of hlx) ?_ ?_⟩
              · rintro i x σ H' hx' ⟨⟨y4, rfl⟩, rfl, hall⟩
                rw [List.getElem?_map] at hx'
                cases en : (numsAt w')[i]? with
                | none => rw [en] at hx'; cases hx'
                | some k =>
                  rw [en] at hx'
                  obtain rfl : V.int k = x := Option.some.inj hx'
                  have km := List.mem_of_getElem? en
                  obtain ⟨kk1, kk2⟩ := nin k km
                  obtain ⟨y, hat, ry⟩ := item k kk1 kk2
                  have bad : natY (r.getD (k.toNat - 1) .non) = false → Q (.bl false) H' := fun h => qL _ (by
                    unfold deedL
                    have : ((numsAt w').all fun k => natY (r.getD (k.toNat - 1) .non)) = false := List.all_eq_false.mpr ⟨k, km, by rw [h]; exact Bool.false_ne_true⟩
                    rw [this]
                    rfl) H' SA
                  have good : natY (r.getD (k.toNat - 1) .non) = true → ∀ k' ∈ (numsAt w').take (i + 1), natY (r.getD (k'.toNat - 1) .non) = true := fun h k' hk' => by
                    rw [take_snoc en] at hk'
                    rcases List.mem_append.mp hk' with z | z
                    · exact hall k' z
                    · rw [List.mem_singleton.mp z]; exact h
                  refine ⟨_, rfl, _, rfl, a, _, _, y, rfl, rfl, SqT.of haA, hat, y, _, rfl, ry.ty, _, rfl, ?_⟩
                  rw [wholeY_ty]
                  generalize hdd : r.getD (k.toNat - 1) .non = dd at *
                  cases dd with
                  | int n =>
                    rw [RepY] at ry
                    subst ry
                    refine iteF ⟨_, rfl, _, rfl, a, _, _, _, rfl, rfl, SqT.of haA, hat, _, _, rfl, rfl, _, rfl, ite2 (fun h => bad ?_) (fun h => ⟨⟨_, rfl⟩, rfl, good ?_⟩)⟩
                    · have h := of_decide_eq_true h
                      exact decide_eq_false (by omega)
                    · exact decide_eq_true (by have : ¬ n < 0 := fun z => h (decide_eq_true z); omega)
                  | _ => exact iteT (bad rfl)
              · rintro σ H' ⟨⟨y4, rfl⟩, rfl, hall⟩
                rw [List.length_map, List.take_of_length_le (Nat.le_refl _)] at hall
                have eN : ((numsAt w').all fun k => natY (r.getD (k.toNat - 1) .non)) = true := List.all_eq_true.mpr hall
                obtain ⟨y1, hat1, ry1⟩ := item 1 (by decide) (by omega)
                dsimp only
                refine z_if (fun bb H'' => Same H' H'' ∧ (bb = true → deedL w' r = false) ∧ (bb = false → (!handB w' || fieldY (r.getD 0 .non)) = true)) (fun R hR => ?_) (fun HC ⟨sC, hC, _⟩ => qL _ (hC rfl) HC (SA.trans sC)) (fun HC ⟨sC, _, hC⟩ => ?_)
                · refine ⟨_, rfl, (by show 5 ≤ sizeLine; decide), fun e4 he4 => ⟨e4, _, rfl, .inl (SqL.of upd_same), rfl, rfl, _, rfl, ite2 (fun h => ?_) (fun h => ?_)⟩⟩
                  · have hb : handB w' = true := h
                    refine ⟨_, rfl, a, _, 1, y1, rfl, rfl, SqT.of (same_new he4 _ _ _ haA), hat1, y1, _, rfl, RepY.same (same_new he4 _) _ ry1, fun HC sC => ⟨_, rfl, hR _ HC ⟨(same_new he4 _).trans sC, fun z => ?_, fun z => ?_⟩⟩⟩
                    · have z : fieldY (r.getD 0 .non) = false := by simpa using z
                      unfold deedL
                      rw [eN, hb, z]
                      rfl
                    · have z : fieldY (r.getD 0 .non) = true := by simpa using z
                      rw [z, Bool.or_true]
                  · have hb : handB w' = false := Bool.eq_false_iff.mpr h
                    exact hR _ _ ⟨same_new he4 _, fun z => (Bool.false_ne_true z).elim, fun _ => by rw [hb]; rfl⟩
                have hC := hC rfl
                have haC := sC _ _ haA
                have SC := SA.trans sC
                refine ⟨_, rfl, (by show 2 ≤ sizeLine; decide), fun e5 he5 => ⟨e5, _, rfl, .inl (SqL.of upd_same), rfl, rfl, _, rfl, ?_⟩⟩
                have sD := same_new he5 (.lst [V.str "want", V.str "unwant"])
                generalize upd HC e5 (.lst [V.str "want", V.str "unwant"]) = HD at *
                have haD := sD _ _ haC
                have SD := SC.trans sD
                refine ite2 (fun h => ?_) (fun h => ?_)
                · have hw : wishB w' = true := h
                  have k2 := kw hw
                  obtain ⟨y2, hat2, ry2⟩ := item 2 (by decide) (by omega)
                  refine ⟨_, rfl, a, _, 2, y2, rfl, rfl, SqT.of haD, hat2, y2, _, 3, rfl, .inr rfl, RepY.same (sC.trans sD) _ ry2, fun HE sE => ?_⟩
                  refine qL _ ?_ HE (SD.trans sE)
                  rw [made3]
                  unfold deedL
                  rw [eN, hC, if_pos hw]
                  rfl
                · have hw : ¬ wishB w' = true := h
                  refine ⟨_, rfl, rfl, _, rfl, ?_⟩
                  by_cases ht : w' = "tell"
                  · rw [decide_eq_true (show V.str w' = V.str "tell" by rw [ht])]
                    have k2 := kt ht
                    obtain ⟨y2, hat2, ry2⟩ := item 2 (by decide) (by omega)
                    refine iteF ⟨_, rfl, a, _, 2, y2, rfl, rfl, SqT.of haD, hat2, y2, _, 2, rfl, .inl rfl, RepY.same (sC.trans sD) _ ry2, fun HE sE => ?_⟩
                    refine qL _ ?_ HE (SD.trans sE)
                    rw [made2]
                    unfold deedL
                    rw [eN, hC, if_neg hw, decide_eq_false (fun z => z ht)]
                    rfl
                  · rw [decide_eq_false (fun z => ht (by injection z))]
                    refine iteT (qL _ ?_ HD SD)
                    unfold deedL
                    rw [eN, hC, if_neg hw, decide_eq_true ht]
                    rfl
            · rw [decide_eq_false (fun z => hlen (el.mp z))]
              have e5 : deedR ks r = false := by unfold deedR; rw [decide_eq_false hlen]; rfl
              refine iteT ?_
              rw [← e5]
              exact q _ S2
  | _ => exact ⟨_, rfl, _, _, "tuple", false, rfl, hd1.ty, rfl, _, rfl, iteT (q _ s1)⟩
theorem sc_law : FnScope ["script", "bag", "last", "turn", "spoils", "thing", "k", "kept", "one", "found"] ["script"] (defScope s_law) := ⟨rfl, rfl, rfl, by decide +kernel, rfl, by decide +kernel, by decide +kernel⟩
theorem ok_law {f : Addr} {fd : FuncData} (F : Fun K "law" "law" s_law f fd) (B : Bl mg) {aD t1 t2 t3 t4 t5 t6 t7 t8 : Addr} (De : Deeds K w mg aD t1 t2 t3 t4 t5 t6 t7 t8) (C_DEED_PARTS : mg "DEED_PARTS" = some (.ref aD)) {t_MOST_LETTERS : Tok} (C_MOST_LETTERS : mg "MOST_LETTERS" = some (.int 8 t_MOST_LETTERS)) (G_law_bag : FnH P w K mg base 1 "_law_bag" ["script"] (spBag K)) (G_law_draw : FnH P w K mg base 1 "_law_draw" ["bag", "many"] (spDraw)) (G_law_copied : FnH P w K mg base 14 "_law_copied" ["thing"] (spUpTo 12 spCopN)) (G_law_good : FnH P w K mg base 5 "_law_good" ["bag"] (spGood8)) (G_law_plain : FnH P w K mg base 6 "_law_plain" ["bag", "deep"] (spUpTo 2 spPlN)) (G_is_deed : FnH P w K mg base 7 "is_deed" ["thing"] (spLookD deedY)) (G_law_spoilt : FnH P w K mg base 17 "_law_spoilt" ["bag", "thing"] (spUpTo 8 spSpo8)) (G_law_is_deed : FnH P w K mg base 4 "_law_is_deed" ["thing"] (spLookD deedY)) : FnOk P w K mg base CX0 18 f fd ["script"] (spLaw K) := by
  refine F.ok sc_law (fun vs H Q E h => ?_) (fun cdv A outer s H vs Q E hr h => ?_)
  · obtain ⟨a, ns, rfl, hS, h63, q⟩ := h
    rfl
  obtain ⟨a, ns, rfl, hS, h63, q⟩ := h
  refine ⟨_, (pss_cons (ps_set (i := 1) sc_law.nd rfl (Or.inl rfl) (pe_fn G_law_bag (hr.mono (by decide)) rfl (pa_cons (pv 0) pa_nil)))
      (pss_cons (ps_set (i := 2) sc_law.nd rfl (Or.inl rfl) (pe_tup (pa_cons pe_str (pa_cons pe_str pa_nil))))
      (pss_cons (ps_for PassesOwn.never rfl (pi_range1 rfl B.range_ (pa_cons pe_int pa_nil)) (pg_name (i := 3) sc_law.nd rfl (Or.inl rfl)) (pss_cons (ps_set (i := 4) sc_law.nd rfl (Or.inl rfl) (pe_fn G_law_draw (hr.mono (by decide)) rfl (pa_cons (pv 1) (pa_cons pe_int pa_nil))))
      (pss_cons (ps_set (i := 5) sc_law.nd rfl (Or.inl rfl) (pe_ifExp (pt_cmpR op_lt (pv 4) pe_int (nomark _)) (pe_fn G_law_good (hr.mono (by decide)) rfl (pa_cons (pv 1) pa_nil)) (pe_fn G_law_plain (hr.mono (by decide)) rfl (pa_cons (pv 1) (pa_cons pe_int pa_nil)))))
      (pss_cons (ps_for PassesOwn.never rfl (pi_range1 rfl B.range_ (pa_cons (pe_op op_mod (pv 4) pe_int) pa_nil)) (pg_name (i := 6) sc_law.nd rfl (Or.inl rfl)) (pss_one (ps_set (i := 5) sc_law.nd rfl (Or.inl rfl) (pe_ifExp (pt_val (pe_callB (call_isinst (n := "")) rfl B.isinstance_ bt_isinstance (pa_cons (pv 5) (pa_cons (pe_bltn (v := .ty "tuple") rfl B.tuple_ bt_tuple rfl) pa_nil)))) (pe_fn G_law_spoilt (hr.mono (by decide)) rfl (pa_cons (pv 1) (pa_cons (pv 5) pa_nil))) (pe_tup (pa_cons (pv 5) pa_nil))))))
      (pss_cons (ps_set (i := 7) sc_law.nd rfl (Or.inl rfl) (pe_fn G_law_copied (hr.mono (by decide)) rfl (pa_cons (pv 5) pa_nil)))
      (pss_cons (ps_for PassesOwn.never rfl (pi_list (pe_lst (pa_cons (pv 5) (pa_cons (pv 2) (pa_cons (pv 5) pa_nil))))) (pg_name (i := 8) sc_law.nd rfl (Or.inl rfl)) (pss_cons (ps_set (i := 9) sc_law.nd rfl (Or.inl rfl) (pe_fn G_is_deed (hr.mono (by decide)) rfl (pa_cons (pv 8) pa_nil)))
      (pss_one (ps_if (PW.pt (pw_or (pt_not (pt_val (pe_callB (call_isinst (n := "")) rfl B.isinstance_ bt_isinstance (pa_cons (pv 9) (pa_cons (pe_bltn (v := .ty "bool") rfl B.bool_ bt_bool rfl) pa_nil))))) (pw_or1 (pt_cmpR (op_neY (roomD_of hr)) (pv 9) (pe_fn G_law_is_deed (hr.mono (by decide)) rfl (pa_cons (pv 8) pa_nil)) (nomark _))))) (pss_one (ps_ret pe_bl)) pss_nil))))
      (pss_cons (ps_if (pt_cmpR (op_neY (roomD_of hr)) (pv 5) (pv 7) (nomark _)) (pss_one (ps_ret pe_bl)) pss_nil)
      (pss_one (ps_set (i := 2) sc_law.nd rfl (Or.inl rfl) (pv 5))))))))))
      (pss_one (ps_ret pe_bl))))), ?_⟩
  refine ⟨_, rfl, a, ns, rfl, hS, h63, fun b g l H1 B1 S1 nb ng => ?_⟩
  refine ⟨(by show 2 ≤ sizeLine; decide), fun t0 ht0 => ?_⟩
  have s0 := same_new ht0 (.tup [V.str "go", V.str "a"])
  have g0 : (upd H1 t0 (.tup [V.str "go", V.str "a"])) t0 = some (.tup [V.str "go", V.str "a"]) := upd_same
  obtain ⟨tb, tg, _⟩ := B1.free ht0
  have B0 := B1.same s0
  generalize upd H1 t0 (.tup [V.str "go", V.str "a"]) = H0 at *
  have r0 : RepY (hs (sBG b g) H0) (.tup [.str "go", .str "a"]) (.ref t0) := rep_tup (hs_at g0 (sBG_no tb tg)) (.cons (by rw [RepY]; exact ⟨rfl, by decide +kernel⟩) (.cons (by rw [RepY]; exact ⟨rfl, by decide +kernel⟩) .nil)) (by show 2 ≤ 900; decide)
  refine ⟨12, rfl, by decide, by decide, for_range (n := 12) (fun i σ H' => (∃ vl x3 x4 x5 x6 x7 x8 x9, σ = [some (.ref a), some (.ref b), some vl, x3, x4, x5, x6, x7, x8, x9] ∧ ∃ dl, RepY (hs (sBG b g) H') dl vl) ∧ Bag H' b g l (3000 * (i : Int))) ⟨⟨_, none, none, none, none, none, none, none, rfl, _, r0⟩, B0.mono (by decide)⟩ ?_ ?_⟩
  · rintro i σ H2 hi ⟨⟨vl, x3, x4, x5, x6, x7, x8, x9, rfl, dl, rl⟩, B2⟩
    have cP2 : cPl 2 = 80 := rfl
    refine ⟨_, rfl, b, g, l, _, 4, rfl, B2, by omega, by decide, by decide, fun sp H3 sp0 sp1 B3 S3 => ?_⟩
    refine z_name ?_
    dsimp only
    refine z_join (fun σ' H' => ∃ v d, σ' = [some (.ref a), some (.ref b), some vl, some (.int (0 + (i : Int))), some (.int sp), some v, x6, x7, x8, x9] ∧ RepY (hs (sBG b g) H') d v ∧ depthY d ≤ 4 ∧ szY d ≤ 20 ∧ Bag H' b g l (3000 * (i : Int) + 900) ∧ SameB b g H2 H') (fun Z hZ => ?_) ?_
    · refine ⟨_, rfl, _, _, rfl, rfl, _, rfl, ite2 (fun h => ?_) (fun h => ?_)⟩
      · exact ⟨_, rfl, b, g, l, _, rfl, B3, by omega, fun v ds H4 r4 d4 z4 B4 S4 => hZ _ _ ⟨v, .tup ds, rfl, r4, by omega, z4, B4.mono (by omega), S3.trans S4⟩⟩
      · exact ⟨_, rfl, 2, by decide, b, g, l, _, rfl, B3, by omega, fun v d H4 r4 d4 z4 B4 S4 => hZ _ _ ⟨v, d, rfl, RepY.same (hs_nw (sBG_trk B3)) _ r4, by omega, by omega, B4.mono (by omega), S3.trans S4⟩⟩
    rintro σ' H4 ⟨v, d, rfl, r4, d4, z4, B4, S4⟩
    have m3 : 0 ≤ sp % 3 ∧ sp % 3 < 3 := ⟨Int.emod_nonneg _ (by decide), Int.emod_lt_of_pos _ (by decide)⟩
    refine ⟨_, rfl, _, _, rfl, rfl, (by show (0 : Int) < 3; decide), _, rfl, by omega, by omega, for_range (n := (sp % 3).toNat) (fun j σ H' => ∃ v d y6, σ = [some (.ref a), some (.ref b), some vl, some (.int (0 + (i : Int))), some (.int sp), some v, y6, x7, x8, x9] ∧ RepY (hs (sBG b g) H') d v ∧ depthY d ≤ 4 + 4 * j ∧ szY d ≤ mS j ∧ Bag H' b g l (3000 * (i : Int) + 900 + 1000 * (j : Int)) ∧ SameB b g H2 H') ⟨v, d, _, rfl, r4, d4, z4, B4.mono (by omega), S4⟩ ?_ ?_⟩
    · rintro j σ H5 hj ⟨v, d, y6, rfl, r5, d5, z5, B5, S5⟩
      have j2 : j = 0 ∨ j = 1 := by omega
      have hm : 1 ≤ mS j ∧ mS j ≤ 140 := by rcases j2 with rfl | rfl <;> decide
      refine ⟨_, rfl, _, _, "tuple", _, rfl, (RepY.same (hs_le _ _) d r5).ty, isTup_k K d, _, rfl, ?_⟩
      cases hT : isTup d with
      | true =>
        obtain ⟨ds, rfl⟩ := isTup_form hT
        refine iteT ⟨_, rfl, _, rfl, 4 + 4 * j, by omega, b, g, l, _, sBG b g, v, ds, mS j, rfl, B5, by omega, sBG_b b g, sBG_g b g, sBG_trk B5, r5, d5, z5, hm.1, hm.2, fun v' d' H6 r6 d6 z6 B6 S6 => ?_⟩
        exact ⟨v', d', _, rfl, r6, by omega, z6, B6.mono (by omega), S5.trans S6⟩
      | false =>
        refine iteF ⟨_, rfl, (by show 1 ≤ sizeLine; decide), fun t ht => ?_⟩
        have s6 := same_new ht (.tup [v])
        obtain ⟨tb, tg, _⟩ := B5.free ht
        have e1 : depthY (.tup [d]) ≤ 4 + 4 * j + 1 := dp_tup fun e he => by rw [List.mem_singleton.mp he]; exact d5
        have e2 : szY (.tup [d]) ≤ mS j := sz_tup (fun e he => by rw [List.mem_singleton.mp he]; exact z5) hm.1
        have e3 : mS j ≤ mS (j + 1) := by show mS j ≤ 2 * mS j + 20; omega
        exact ⟨_, .tup [d], _, rfl, rep_tup (hs_at upd_same (sBG_no tb tg)) (.cons (RepY.same (hs_same s6) _ r5) .nil) (by show 1 ≤ 900; decide), by omega, by omega, (B5.same s6).mono (by omega), S5.trans s6.sameB⟩
    rintro σ' H5 ⟨v, d, y6, rfl, r5, d5, z5, B5, S5⟩
    have d12 : depthY d ≤ 12 := by omega
    have rl5 := RepY.same (hs_sameB (sBG_b b g) (sBG_g b g) S5) dl rl
    have r5' := RepY.same (hs_le _ _) d r5
    refine ⟨_, rfl, 12, by decide, v, d, rfl, r5', d12, fun w5 H6 r6 s6 => ?_⟩
    have rw6 := RepY.same (nw_le H5 H6) d r6
    refine ⟨_, rfl, _, rfl, _, rfl, (by show 3 ≤ sizeLine; decide), fun p hp => ?_⟩
    have s7 := same_new hp (.lst [v, vl, v])
    have g7 : (upd H6 p (.lst [v, vl, v])) p = some (.lst [v, vl, v]) := upd_same
    generalize upd H6 p (.lst [v, vl, v]) = H7 at *
    have S7 := s6.trans s7
    have r7 := RepY.same S7 d r5'
    have l7 := RepY.same S7 dl (RepY.same (hs_le _ _) dl rl5)
    refine ⟨p, rfl, ⟨_, SqL.of g7⟩, for_list (K := K) (a := p) (xs := [v, vl, v]) (fun j σ H' => (∃ y8 y9, σ = [some (.ref a), some (.ref b), some vl, some (.int (0 + (i : Int))), some (.int sp), some v, y6, some w5, y8, y9]) ∧ Same H7 H') ⟨⟨_, _, rfl⟩, Same.refl _⟩ (fun j σ H' _ ⟨_, s⟩ => SqL.of (s _ _ g7)) ?_ ?_⟩
    · rintro j x σ H8 hx ⟨⟨y8, y9, rfl⟩, s8⟩
      obtain ⟨e, re⟩ : ∃ e, RepY H8 e x := by
        match j, hx with
        | 0, hx => exact ⟨d, by rw [← Option.some.inj hx]; exact RepY.same s8 d r7⟩
        | 1, hx => exact ⟨dl, by rw [← Option.some.inj hx]; exact RepY.same s8 dl l7⟩
        | 2, hx => exact ⟨d, by rw [← Option.some.inj hx]; exact RepY.same s8 d r7⟩
        | j + 3, hx => simp at hx
      refine ⟨_, rfl, x, e, rfl, re, fun H9 s9 => ?_⟩
      refine ⟨_, rfl, _, "bool", "bool", true, rfl, .bl _, rfl, _, rfl, iteF ⟨_, rfl, _, rfl, x, e, rfl, RepY.same s9 e re, fun HA sA => ?_⟩⟩
      exact ⟨.bl (deedY e), by rw [RepY], by rw [RepY], (by show 0 < 60; decide), _, rfl, iteF ⟨⟨_, _, rfl⟩, (s8.trans s9).trans sA⟩⟩
    · rintro σ H8 ⟨⟨y8, y9, rfl⟩, s8⟩
      refine ⟨_, rfl, _, rfl, d, RepY.same s8 d r7, RepY.same (s7.trans s8) d rw6, by omega, _, rfl, iteF ⟨_, rfl, ?_⟩⟩
      have S8 : Same H5 H8 := S7.trans s8
      exact ⟨⟨v, _, _, _, _, _, _, _, rfl, d, RepY.same (hs_same S8) d r5⟩, (B5.same S8).mono (by omega)⟩
  · rintro σ H2 ⟨_, B2⟩
    exact q H2
end
theorem all_mk {l : PySem.W.OpenLaw} {w : World} {K : PySem.W.Frag} {h : Heap} {mg : Str → Option Value} {fa f1 f2 f3 f4 f5 f6 f7 f8 f9 f10 f11 f12 f13 f14 f15 f16 f17 f18 f19 f20 f21 f22 f23 f24 f25 f26 f27 f28 f29 f30 f31 f32 : Addr} (X : K.In h) (G : h.Ns mainGlobals mg) (hfa : mg "law" = some (.ref fa))
    {od1 od2 od3 od4 od5 od6 od7 od8 od9 od10 od11 od12 od13 od14 od15 od16 od17 od18 od19 od20 od21 od22 od23 od24 od25 od26 od27 od28 od29 od30 od31 od32 an1 an2 an3 an4 an5 an6 an7 an8 an9 an10 an11 an12 an13 an14 an15 an16 an17 an18 an19 an20 an21 an22 an23 an24 an25 an26 an27 an28 an29 an30 an31 an32 : Option Addr} {sl1 sl2 sl3 sl4 sl5 sl6 sl7 sl8 sl9 sl10 sl11 sl12 sl13 sl14 sl15 sl16 sl17 sl18 sl19 sl20 sl21 sl22 sl23 sl24 sl25 sl26 sl27 sl28 sl29 sl30 sl31 sl32 : Array (Option Value)} {oc1 oc2 oc3 oc4 oc5 oc6 oc7 oc8 oc9 oc10 oc11 oc12 oc13 oc14 oc15 oc16 oc17 oc18 oc19 oc20 oc21 oc22 oc23 oc24 oc25 oc26 oc27 oc28 oc29 oc30 oc31 oc32 kV1 kV2 kV3 kV4 kV5 kV6 kV7 kV8 kV9 kV10 kV11 kV12 kV13 kV14 kV15 kV16 kV17 kV18 kV19 kV20 kV21 kV22 kV23 kV24 kV25 kV26 kV27 kV28 kV29 kV30 kV31 kV32 dc1 dc2 dc3 dc4 dc5 dc6 dc7 dc8 dc9 dc10 dc11 dc12 dc13 dc14 dc15 dc16 dc17 dc18 dc19 dc20 dc21 dc22 dc23 dc24 dc25 dc26 dc27 dc28 dc29 dc30 dc31 dc32 pm1 pm2 pm3 pm4 pm5 pm6 pm7 pm8 pm9 pm10 pm11 pm12 pm13 pm14 pm15 pm16 pm17 pm18 pm19 pm20 pm21 pm22 pm23 pm24 pm25 pm26 pm27 pm28 pm29 pm30 pm31 pm32 cd1 cd2 cd3 cd4 cd5 cd6 cd7 cd8 cd9 cd10 cd11 cd12 cd13 cd14 cd15 cd16 cd17 cd18 cd19 cd20 cd21 cd22 cd23 cd24 cd25 cd26 cd27 cd28 cd29 cd30 cd31 cd32 ct1 ct2 ct3 ct4 ct5 ct6 ct7 ct8 ct9 ct10 ct11 ct12 ct13 ct14 ct15 ct16 ct17 ct18 ct19 ct20 ct21 ct22 ct23 ct24 ct25 ct26 ct27 ct28 ct29 ct30 ct31 ct32 : Value}
    (a1 : PySem.W.nsIn K mainGlobals "is_whole" = some (some (.ref f1))) (l1 : K.lookup f1 = some ⟨oc1, od1, .func (PySem.W.fnOf "is_whole" "is_whole" (defArgs s_is_whole) (defBody s_is_whole) (defScope s_is_whole) .none kV1 dc1 pm1 an1 cd1 ct1), sl1⟩) (c1 : PySem.W.codeIn K cd1 "is_whole" = true) (k1 : PySem.W.keepIn K (.ref f1) = true)
    (a2 : PySem.W.nsIn K mainGlobals "is_end" = some (some (.ref f2))) (l2 : K.lookup f2 = some ⟨oc2, od2, .func (PySem.W.fnOf "is_end" "is_end" (defArgs s_is_end) (defBody s_is_end) (defScope s_is_end) .none kV2 dc2 pm2 an2 cd2 ct2), sl2⟩) (c2 : PySem.W.codeIn K cd2 "is_end" = true) (k2 : PySem.W.keepIn K (.ref f2) = true)
    (a3 : PySem.W.nsIn K mainGlobals "is_span" = some (some (.ref f3))) (l3 : K.lookup f3 = some ⟨oc3, od3, .func (PySem.W.fnOf "is_span" "is_span" (defArgs s_is_span) (defBody s_is_span) (defScope s_is_span) .none kV3 dc3 pm3 an3 cd3 ct3), sl3⟩) (c3 : PySem.W.codeIn K cd3 "is_span" = true) (k3 : PySem.W.keepIn K (.ref f3) = true)
    (a4 : PySem.W.nsIn K mainGlobals "is_field" = some (some (.ref f4))) (l4 : K.lookup f4 = some ⟨oc4, od4, .func (PySem.W.fnOf "is_field" "is_field" (defArgs s_is_field) (defBody s_is_field) (defScope s_is_field) .none kV4 dc4 pm4 an4 cd4 ct4), sl4⟩) (c4 : PySem.W.codeIn K cd4 "is_field" = true) (k4 : PySem.W.keepIn K (.ref f4) = true)
    (a5 : PySem.W.nsIn K mainGlobals "is_wish_part" = some (some (.ref f5))) (l5 : K.lookup f5 = some ⟨oc5, od5, .func (PySem.W.fnOf "is_wish_part" "is_wish_part" (defArgs s_is_wish_part) (defBody s_is_wish_part) (defScope s_is_wish_part) .none kV5 dc5 pm5 an5 cd5 ct5), sl5⟩) (c5 : PySem.W.codeIn K cd5 "is_wish_part" = true) (k5 : PySem.W.keepIn K (.ref f5) = true)
    (a6 : PySem.W.nsIn K mainGlobals "is_piece_part" = some (some (.ref f6))) (l6 : K.lookup f6 = some ⟨oc6, od6, .func (PySem.W.fnOf "is_piece_part" "is_piece_part" (defArgs s_is_piece_part) (defBody s_is_piece_part) (defScope s_is_piece_part) .none kV6 dc6 pm6 an6 cd6 ct6), sl6⟩) (c6 : PySem.W.codeIn K cd6 "is_piece_part" = true) (k6 : PySem.W.keepIn K (.ref f6) = true)
    (a7 : PySem.W.nsIn K mainGlobals "fields_ascend" = some (some (.ref f7))) (l7 : K.lookup f7 = some ⟨oc7, od7, .func (PySem.W.fnOf "fields_ascend" "fields_ascend" (defArgs s_fields_ascend) (defBody s_fields_ascend) (defScope s_fields_ascend) .none kV7 dc7 pm7 an7 cd7 ct7), sl7⟩) (c7 : PySem.W.codeIn K cd7 "fields_ascend" = true) (k7 : PySem.W.keepIn K (.ref f7) = true)
    (a8 : PySem.W.nsIn K mainGlobals "is_wish" = some (some (.ref f8))) (l8 : K.lookup f8 = some ⟨oc8, od8, .func (PySem.W.fnOf "is_wish" "is_wish" (defArgs s_is_wish) (defBody s_is_wish) (defScope s_is_wish) .none kV8 dc8 pm8 an8 cd8 ct8), sl8⟩) (c8 : PySem.W.codeIn K cd8 "is_wish" = true) (k8 : PySem.W.keepIn K (.ref f8) = true)
    (a9 : PySem.W.nsIn K mainGlobals "is_piece" = some (some (.ref f9))) (l9 : K.lookup f9 = some ⟨oc9, od9, .func (PySem.W.fnOf "is_piece" "is_piece" (defArgs s_is_piece) (defBody s_is_piece) (defScope s_is_piece) .none kV9 dc9 pm9 an9 cd9 ct9), sl9⟩) (c9 : PySem.W.codeIn K cd9 "is_piece" = true) (k9 : PySem.W.keepIn K (.ref f9) = true)
    (a10 : PySem.W.nsIn K mainGlobals "is_name" = some (some (.ref f10))) (l10 : K.lookup f10 = some ⟨oc10, od10, .func (PySem.W.fnOf "is_name" "is_name" (defArgs s_is_name) (defBody s_is_name) (defScope s_is_name) .none kV10 dc10 pm10 an10 cd10 ct10), sl10⟩) (c10 : PySem.W.codeIn K cd10 "is_name" = true) (k10 : PySem.W.keepIn K (.ref f10) = true)
    (a11 : PySem.W.nsIn K mainGlobals "is_from_nought" = some (some (.ref f11))) (l11 : K.lookup f11 = some ⟨oc11, od11, .func (PySem.W.fnOf "is_from_nought" "is_from_nought" (defArgs s_is_from_nought) (defBody s_is_from_nought) (defScope s_is_from_nought) .none kV11 dc11 pm11 an11 cd11 ct11), sl11⟩) (c11 : PySem.W.codeIn K cd11 "is_from_nought" = true) (k11 : PySem.W.keepIn K (.ref f11) = true)
    (a12 : PySem.W.nsIn K mainGlobals "is_part" = some (some (.ref f12))) (l12 : K.lookup f12 = some ⟨oc12, od12, .func (PySem.W.fnOf "is_part" "is_part" (defArgs s_is_part) (defBody s_is_part) (defScope s_is_part) .none kV12 dc12 pm12 an12 cd12 ct12), sl12⟩) (c12 : PySem.W.codeIn K cd12 "is_part" = true) (k12 : PySem.W.keepIn K (.ref f12) = true)
    (a13 : PySem.W.nsIn K mainGlobals "is_deed" = some (some (.ref f13))) (l13 : K.lookup f13 = some ⟨oc13, od13, .func (PySem.W.fnOf "is_deed" "is_deed" (defArgs s_is_deed) (defBody s_is_deed) (defScope s_is_deed) .none kV13 dc13 pm13 an13 cd13 ct13), sl13⟩) (c13 : PySem.W.codeIn K cd13 "is_deed" = true) (k13 : PySem.W.keepIn K (.ref f13) = true)
    (a14 : PySem.W.nsIn K mainGlobals "_law_bag" = some (some (.ref f14))) (l14 : K.lookup f14 = some ⟨oc14, od14, .func (PySem.W.fnOf "_law_bag" "_law_bag" (defArgs s_law_bag) (defBody s_law_bag) (defScope s_law_bag) .none kV14 dc14 pm14 an14 cd14 ct14), sl14⟩) (c14 : PySem.W.codeIn K cd14 "_law_bag" = true) (k14 : PySem.W.keepIn K (.ref f14) = true)
    (a15 : PySem.W.nsIn K mainGlobals "_law_draw" = some (some (.ref f15))) (l15 : K.lookup f15 = some ⟨oc15, od15, .func (PySem.W.fnOf "_law_draw" "_law_draw" (defArgs s_law_draw) (defBody s_law_draw) (defScope s_law_draw) .none kV15 dc15 pm15 an15 cd15 ct15), sl15⟩) (c15 : PySem.W.codeIn K cd15 "_law_draw" = true) (k15 : PySem.W.keepIn K (.ref f15) = true)
    (a16 : PySem.W.nsIn K mainGlobals "_law_number" = some (some (.ref f16))) (l16 : K.lookup f16 = some ⟨oc16, od16, .func (PySem.W.fnOf "_law_number" "_law_number" (defArgs s_law_number) (defBody s_law_number) (defScope s_law_number) .none kV16 dc16 pm16 an16 cd16 ct16), sl16⟩) (c16 : PySem.W.codeIn K cd16 "_law_number" = true) (k16 : PySem.W.keepIn K (.ref f16) = true)
    (a17 : PySem.W.nsIn K mainGlobals "_law_span" = some (some (.ref f17))) (l17 : K.lookup f17 = some ⟨oc17, od17, .func (PySem.W.fnOf "_law_span" "_law_span" (defArgs s_law_span) (defBody s_law_span) (defScope s_law_span) .none kV17 dc17 pm17 an17 cd17 ct17), sl17⟩) (c17 : PySem.W.codeIn K cd17 "_law_span" = true) (k17 : PySem.W.keepIn K (.ref f17) = true)
    (a18 : PySem.W.nsIn K mainGlobals "_law_whole" = some (some (.ref f18))) (l18 : K.lookup f18 = some ⟨oc18, od18, .func (PySem.W.fnOf "_law_whole" "_law_whole" (defArgs s_law_whole) (defBody s_law_whole) (defScope s_law_whole) .none kV18 dc18 pm18 an18 cd18 ct18), sl18⟩) (c18 : PySem.W.codeIn K cd18 "_law_whole" = true) (k18 : PySem.W.keepIn K (.ref f18) = true)
    (a19 : PySem.W.nsIn K mainGlobals "_law_field" = some (some (.ref f19))) (l19 : K.lookup f19 = some ⟨oc19, od19, .func (PySem.W.fnOf "_law_field" "_law_field" (defArgs s_law_field) (defBody s_law_field) (defScope s_law_field) .none kV19 dc19 pm19 an19 cd19 ct19), sl19⟩) (c19 : PySem.W.codeIn K cd19 "_law_field" = true) (k19 : PySem.W.keepIn K (.ref f19) = true)
    (a20 : PySem.W.nsIn K mainGlobals "_law_fields" = some (some (.ref f20))) (l20 : K.lookup f20 = some ⟨oc20, od20, .func (PySem.W.fnOf "_law_fields" "_law_fields" (defArgs s_law_fields) (defBody s_law_fields) (defScope s_law_fields) .none kV20 dc20 pm20 an20 cd20 ct20), sl20⟩) (c20 : PySem.W.codeIn K cd20 "_law_fields" = true) (k20 : PySem.W.keepIn K (.ref f20) = true)
    (a21 : PySem.W.nsIn K mainGlobals "_law_plain" = some (some (.ref f21))) (l21 : K.lookup f21 = some ⟨oc21, od21, .func (PySem.W.fnOf "_law_plain" "_law_plain" (defArgs s_law_plain) (defBody s_law_plain) (defScope s_law_plain) .none kV21 dc21 pm21 an21 cd21 ct21), sl21⟩) (c21 : PySem.W.codeIn K cd21 "_law_plain" = true) (k21 : PySem.W.keepIn K (.ref f21) = true)
    (a22 : PySem.W.nsIn K mainGlobals "_law_is_field" = some (some (.ref f22))) (l22 : K.lookup f22 = some ⟨oc22, od22, .func (PySem.W.fnOf "_law_is_field" "_law_is_field" (defArgs s_law_is_field) (defBody s_law_is_field) (defScope s_law_is_field) .none kV22 dc22 pm22 an22 cd22 ct22), sl22⟩) (c22 : PySem.W.codeIn K cd22 "_law_is_field" = true) (k22 : PySem.W.keepIn K (.ref f22) = true)
    (a23 : PySem.W.nsIn K mainGlobals "_law_is_span" = some (some (.ref f23))) (l23 : K.lookup f23 = some ⟨oc23, od23, .func (PySem.W.fnOf "_law_is_span" "_law_is_span" (defArgs s_law_is_span) (defBody s_law_is_span) (defScope s_law_is_span) .none kV23 dc23 pm23 an23 cd23 ct23), sl23⟩) (c23 : PySem.W.codeIn K cd23 "_law_is_span" = true) (k23 : PySem.W.keepIn K (.ref f23) = true)
    (a24 : PySem.W.nsIn K mainGlobals "_law_is_made" = some (some (.ref f24))) (l24 : K.lookup f24 = some ⟨oc24, od24, .func (PySem.W.fnOf "_law_is_made" "_law_is_made" (defArgs s_law_is_made) (defBody s_law_is_made) (defScope s_law_is_made) .none kV24 dc24 pm24 an24 cd24 ct24), sl24⟩) (c24 : PySem.W.codeIn K cd24 "_law_is_made" = true) (k24 : PySem.W.keepIn K (.ref f24) = true)
    (a25 : PySem.W.nsIn K mainGlobals "_law_copied" = some (some (.ref f25))) (l25 : K.lookup f25 = some ⟨oc25, od25, .func (PySem.W.fnOf "_law_copied" "_law_copied" (defArgs s_law_copied) (defBody s_law_copied) (defScope s_law_copied) .none kV25 dc25 pm25 an25 cd25 ct25), sl25⟩) (c25 : PySem.W.codeIn K cd25 "_law_copied" = true) (k25 : PySem.W.keepIn K (.ref f25) = true)
    (a26 : PySem.W.nsIn K mainGlobals "_law_made" = some (some (.ref f26))) (l26 : K.lookup f26 = some ⟨oc26, od26, .func (PySem.W.fnOf "_law_made" "_law_made" (defArgs s_law_made) (defBody s_law_made) (defScope s_law_made) .none kV26 dc26 pm26 an26 cd26 ct26), sl26⟩) (c26 : PySem.W.codeIn K cd26 "_law_made" = true) (k26 : PySem.W.keepIn K (.ref f26) = true)
    (a27 : PySem.W.nsIn K mainGlobals "_law_post" = some (some (.ref f27))) (l27 : K.lookup f27 = some ⟨oc27, od27, .func (PySem.W.fnOf "_law_post" "_law_post" (defArgs s_law_post) (defBody s_law_post) (defScope s_law_post) .none kV27 dc27 pm27 an27 cd27 ct27), sl27⟩) (c27 : PySem.W.codeIn K cd27 "_law_post" = true) (k27 : PySem.W.keepIn K (.ref f27) = true)
    (a28 : PySem.W.nsIn K mainGlobals "_law_good" = some (some (.ref f28))) (l28 : K.lookup f28 = some ⟨oc28, od28, .func (PySem.W.fnOf "_law_good" "_law_good" (defArgs s_law_good) (defBody s_law_good) (defScope s_law_good) .none kV28 dc28 pm28 an28 cd28 ct28), sl28⟩) (c28 : PySem.W.codeIn K cd28 "_law_good" = true) (k28 : PySem.W.keepIn K (.ref f28) = true)
    (a29 : PySem.W.nsIn K mainGlobals "_law_odd" = some (some (.ref f29))) (l29 : K.lookup f29 = some ⟨oc29, od29, .func (PySem.W.fnOf "_law_odd" "_law_odd" (defArgs s_law_odd) (defBody s_law_odd) (defScope s_law_odd) .none kV29 dc29 pm29 an29 cd29 ct29), sl29⟩) (c29 : PySem.W.codeIn K cd29 "_law_odd" = true) (k29 : PySem.W.keepIn K (.ref f29) = true)
    (a30 : PySem.W.nsIn K mainGlobals "_law_spoilt" = some (some (.ref f30))) (l30 : K.lookup f30 = some ⟨oc30, od30, .func (PySem.W.fnOf "_law_spoilt" "_law_spoilt" (defArgs s_law_spoilt) (defBody s_law_spoilt) (defScope s_law_spoilt) .none kV30 dc30 pm30 an30 cd30 ct30), sl30⟩) (c30 : PySem.W.codeIn K cd30 "_law_spoilt" = true) (k30 : PySem.W.keepIn K (.ref f30) = true)
    (a31 : PySem.W.nsIn K mainGlobals "_law_is_deed" = some (some (.ref f31))) (l31 : K.lookup f31 = some ⟨oc31, od31, .func (PySem.W.fnOf "_law_is_deed" "_law_is_deed" (defArgs s_law_is_deed) (defBody s_law_is_deed) (defScope s_law_is_deed) .none kV31 dc31 pm31 an31 cd31 ct31), sl31⟩) (c31 : PySem.W.codeIn K cd31 "_law_is_deed" = true) (k31 : PySem.W.keepIn K (.ref f31) = true)
    (a32 : PySem.W.nsIn K mainGlobals "law" = some (some (.ref f32))) (l32 : K.lookup f32 = some ⟨oc32, od32, .func (PySem.W.fnOf "law" "law" (defArgs s_law) (defBody s_law) (defScope s_law) .none kV32 dc32 pm32 an32 cd32 ct32), sl32⟩) (c32 : PySem.W.codeIn K cd32 "law" = true) (k32 : PySem.W.keepIn K (.ref f32) = true)
    {t_MOST_LETTERS : Tok} (e_MOST_LETTERS : PySem.W.nsIn K mainGlobals "MOST_LETTERS" = some (some (.int 8 t_MOST_LETTERS)))
    {aD t1 t2 t3 t4 t5 t6 t7 t8 : Addr} {esD : Array DictEntry} {nD : Nat} {odt1 : Option Addr} {nt1 : Nat} {slt1 : Array (Option Value)} {itst1 : Array Value} {odt2 : Option Addr} {nt2 : Nat} {slt2 : Array (Option Value)} {itst2 : Array Value} {odt3 : Option Addr} {nt3 : Nat} {slt3 : Array (Option Value)} {itst3 : Array Value} {odt4 : Option Addr} {nt4 : Nat} {slt4 : Array (Option Value)} {itst4 : Array Value} {odt5 : Option Addr} {nt5 : Nat} {slt5 : Array (Option Value)} {itst5 : Array Value} {odt6 : Option Addr} {nt6 : Nat} {slt6 : Array (Option Value)} {itst6 : Array Value} {odt7 : Option Addr} {nt7 : Nat} {slt7 : Array (Option Value)} {itst7 : Array Value} {odt8 : Option Addr} {nt8 : Nat} {slt8 : Array (Option Value)} {itst8 : Array Value}
    (y_D : PySem.W.nsIn K mainGlobals "DEED_PARTS" = some (some (.ref aD)))
    (y_l : K.lookup aD = some ⟨.type "dict", none, .dict esD nD, #[]⟩)
    (y_m : (aD == sysModules) = false)
    (y_k : PySem.W.KeysLit w.params esD.toList)
    (y_e : Ents esD.toList (deedKV t1 t2 t3 t4 t5 t6 t7 t8))
    (y_t1 : K.lookup t1 = some ⟨.type "tuple", odt1, .seq itst1 nt1, slt1⟩)
    (y_v1 : Vals ((["hand", "post"] : List Str).map V.str) itst1.toList)
    (y_s1 : itst1.size ≤ sizeLine)
    (y_t2 : K.lookup t2 = some ⟨.type "tuple", odt2, .seq itst2 nt2, slt2⟩)
    (y_v2 : Vals ((["hand"] : List Str).map V.str) itst2.toList)
    (y_s2 : itst2.size ≤ sizeLine)
    (y_t3 : K.lookup t3 = some ⟨.type "tuple", odt3, .seq itst3 nt3, slt3⟩)
    (y_v3 : Vals ((["hand", "wish"] : List Str).map V.str) itst3.toList)
    (y_s3 : itst3.size ≤ sizeLine)
    (y_t4 : K.lookup t4 = some ⟨.type "tuple", odt4, .seq itst4 nt4, slt4⟩)
    (y_v4 : Vals ((["hand", "wish"] : List Str).map V.str) itst4.toList)
    (y_s4 : itst4.size ≤ sizeLine)
    (y_t5 : K.lookup t5 = some ⟨.type "tuple", odt5, .seq itst5 nt5, slt5⟩)
    (y_v5 : Vals ((["post", "piece"] : List Str).map V.str) itst5.toList)
    (y_s5 : itst5.size ≤ sizeLine)
    (y_t6 : K.lookup t6 = some ⟨.type "tuple", odt6, .seq itst6 nt6, slt6⟩)
    (y_v6 : Vals ((["hand", "post"] : List Str).map V.str) itst6.toList)
    (y_s6 : itst6.size ≤ sizeLine)
    (y_t7 : K.lookup t7 = some ⟨.type "tuple", odt7, .seq itst7 nt7, slt7⟩)
    (y_v7 : Vals ((["post"] : List Str).map V.str) itst7.toList)
    (y_s7 : itst7.size ≤ sizeLine)
    (y_t8 : K.lookup t8 = some ⟨.type "tuple", odt8, .seq itst8 nt8, slt8⟩)
    (y_v8 : Vals ((["post", "post"] : List Str).map V.str) itst8.toList)
    (y_s8 : itst8.size ≤ sizeLine)
    (z_len : PySem.W.nsIn K mainGlobals "len" = some none)
    (z_range : PySem.W.nsIn K mainGlobals "range" = some none)
    (z_isinstance : PySem.W.nsIn K mainGlobals "isinstance" = some none)
    (z_int : PySem.W.nsIn K mainGlobals "int" = some none)
    (z_bool : PySem.W.nsIn K mainGlobals "bool" = some none)
    (z_tuple : PySem.W.nsIn K mainGlobals "tuple" = some none)
    (z_list : PySem.W.nsIn K mainGlobals "list" = some none)
    (z_max : PySem.W.nsIn K mainGlobals "max" = some none)
    (z_min : PySem.W.nsIn K mainGlobals "min" = some none)
    (z_all : PySem.W.nsIn K mainGlobals "all" = some none)
    (z_zip : PySem.W.nsIn K mainGlobals "zip" = some none)
    (z_str : PySem.W.nsIn K mainGlobals "str" = some none)
    (z_dict : PySem.W.nsIn K mainGlobals "dict" = some none)
    (z_sorted : PySem.W.nsIn K mainGlobals "sorted" = some none)
    (z_set : PySem.W.nsIn K mainGlobals "set" = some none)
    (z_any : PySem.W.nsIn K mainGlobals "any" = some none)
    (z_sum : PySem.W.nsIn K mainGlobals "sum" = some none)
    (z_enumerate : PySem.W.nsIn K mainGlobals "enumerate" = some none)
    (z_repr : PySem.W.nsIn K mainGlobals "repr" = some none)
    (z_ord : PySem.W.nsIn K mainGlobals "ord" = some none)
    (z_chr : PySem.W.nsIn K mainGlobals "chr" = some none)
    (z_abs : PySem.W.nsIn K mainGlobals "abs" = some none)
    (z_reversed : PySem.W.nsIn K mainGlobals "reversed" = some none)
    : ∃ fd : FuncData, (∀ (s : Shared) (v : Value), BindsTo s fd ⟨[v], []⟩ [("script", v)]) ∧ ∀ base : Heap, K.In base → base.Ns mainGlobals mg → FnOk l.prog w K mg base CX0 18 fa fd ["script"] (spLaw K) := by
  have e := hfa.symm.trans (PySem.W.mg_of X G a32)
  cases e
  have B : Bl mg := ⟨PySem.W.mg_none_of X G z_len, PySem.W.mg_none_of X G z_range, PySem.W.mg_none_of X G z_isinstance, PySem.W.mg_none_of X G z_int, PySem.W.mg_none_of X G z_bool, PySem.W.mg_none_of X G z_tuple, PySem.W.mg_none_of X G z_list, PySem.W.mg_none_of X G z_max, PySem.W.mg_none_of X G z_min, PySem.W.mg_none_of X G z_all, PySem.W.mg_none_of X G z_zip, PySem.W.mg_none_of X G z_str, PySem.W.mg_none_of X G z_dict, PySem.W.mg_none_of X G z_sorted, PySem.W.mg_none_of X G z_set, PySem.W.mg_none_of X G z_any, PySem.W.mg_none_of X G z_sum, PySem.W.mg_none_of X G z_enumerate, PySem.W.mg_none_of X G z_repr, PySem.W.mg_none_of X G z_ord, PySem.W.mg_none_of X G z_chr, PySem.W.mg_none_of X G z_abs, PySem.W.mg_none_of X G z_reversed⟩
  refine ⟨PySem.W.fnOf "law" "law" (defArgs s_law) (defBody s_law) (defScope s_law) .none kV32 dc32 pm32 an32 cd32 ct32, fun s v => .of_eq rfl, fun base _ _ => ?_⟩
  have De : Deeds K w mg aD t1 t2 t3 t4 t5 t6 t7 t8 := {
    m := PySem.W.mg_of X G y_D
    d := ⟨y_m, _, _, y_l, y_k, y_e⟩
    k1 := ⟨_, _, _, y_t1, rfl, rfl, y_s1, y_v1⟩
    k2 := ⟨_, _, _, y_t2, rfl, rfl, y_s2, y_v2⟩
    k3 := ⟨_, _, _, y_t3, rfl, rfl, y_s3, y_v3⟩
    k4 := ⟨_, _, _, y_t4, rfl, rfl, y_s4, y_v4⟩
    k5 := ⟨_, _, _, y_t5, rfl, rfl, y_s5, y_v5⟩
    k6 := ⟨_, _, _, y_t6, rfl, rfl, y_s6, y_v6⟩
    k7 := ⟨_, _, _, y_t7, rfl, rfl, y_s7, y_v7⟩
    k8 := ⟨_, _, _, y_t8, rfl, rfl, y_s8, y_v8⟩
  }
  have F1 := fun_mk (st := s_is_whole) l1 c1 k1
  have b1 := F1.binds (ps := ["thing"]) fun _ _ _ _ _ _ us hl => match us, hl with | [_], _ => rfl
  have G_is_whole : FnH l.prog w K mg base 1 "is_whole" ["thing"] (spWhole K) := ⟨_, _, ok_is_whole F1 B De De.m (PySem.W.mg_of X G e_MOST_LETTERS) , b1, k1, PySem.W.mg_of X G a1⟩
  have F2 := fun_mk (st := s_is_end) l2 c2 k2
  have b2 := F2.binds (ps := ["thing"]) fun _ _ _ _ _ _ us hl => match us, hl with | [_], _ => rfl
  have G_is_end : FnH l.prog w K mg base 2 "is_end" ["thing"] (spEnd K) := ⟨_, _, ok_is_end F2 B De De.m (PySem.W.mg_of X G e_MOST_LETTERS) G_is_whole, b2, k2, PySem.W.mg_of X G a2⟩
  have F3 := fun_mk (st := s_is_span) l3 c3 k3
  have b3 := F3.binds (ps := ["thing"]) fun _ _ _ _ _ _ us hl => match us, hl with | [_], _ => rfl
  have G_is_span : FnH l.prog w K mg base 3 "is_span" ["thing"] (spIsSpan K) := ⟨_, _, ok_is_span F3 B De De.m (PySem.W.mg_of X G e_MOST_LETTERS) G_is_end, b3, k3, PySem.W.mg_of X G a3⟩
  have F4 := fun_mk (st := s_is_field) l4 c4 k4
  have b4 := F4.binds (ps := ["thing"]) fun _ _ _ _ _ _ us hl => match us, hl with | [_], _ => rfl
  have G_is_field : FnH l.prog w K mg base 1 "is_field" ["thing"] (spLookD fieldY) := ⟨_, _, ok_is_field F4 B De De.m (PySem.W.mg_of X G e_MOST_LETTERS) , b4, k4, PySem.W.mg_of X G a4⟩
  have F5 := fun_mk (st := s_is_wish_part) l5 c5 k5
  have b5 := F5.binds (ps := ["thing"]) fun _ _ _ _ _ _ us hl => match us, hl with | [_], _ => rfl
  have G_is_wish_part : FnH l.prog w K mg base 4 "is_wish_part" ["thing"] (spLookD wpartY) := ⟨_, _, ok_is_wish_part F5 B De De.m (PySem.W.mg_of X G e_MOST_LETTERS) G_is_field G_is_span, b5, k5, PySem.W.mg_of X G a5⟩
  have F6 := fun_mk (st := s_is_piece_part) l6 c6 k6
  have b6 := F6.binds (ps := ["thing"]) fun _ _ _ _ _ _ us hl => match us, hl with | [_], _ => rfl
  have G_is_piece_part : FnH l.prog w K mg base 2 "is_piece_part" ["thing"] (spLookD ppartY) := ⟨_, _, ok_is_piece_part F6 B De De.m (PySem.W.mg_of X G e_MOST_LETTERS) G_is_field G_is_whole, b6, k6, PySem.W.mg_of X G a6⟩
  have F7 := fun_mk (st := s_fields_ascend) l7 c7 k7
  have b7 := F7.binds (ps := ["parts"]) fun _ _ _ _ _ _ us hl => match us, hl with | [_], _ => rfl
  have G_fields_ascend : FnH l.prog w K mg base 1 "fields_ascend" ["parts"] (spLookE (fun ds => ∀ d ∈ ds, (headS d).isSome = true) ascY) := ⟨_, _, ok_fields_ascend F7 B De De.m (PySem.W.mg_of X G e_MOST_LETTERS) , b7, k7, PySem.W.mg_of X G a7⟩
  have F8 := fun_mk (st := s_is_wish) l8 c8 k8
  have b8 := F8.binds (ps := ["thing"]) fun _ _ _ _ _ _ us hl => match us, hl with | [_], _ => rfl
  have G_is_wish : FnH l.prog w K mg base 5 "is_wish" ["thing"] (spLookD wishY) := ⟨_, _, ok_is_wish F8 B De De.m (PySem.W.mg_of X G e_MOST_LETTERS) G_fields_ascend G_is_wish_part, b8, k8, PySem.W.mg_of X G a8⟩
  have F9 := fun_mk (st := s_is_piece) l9 c9 k9
  have b9 := F9.binds (ps := ["thing"]) fun _ _ _ _ _ _ us hl => match us, hl with | [_], _ => rfl
  have G_is_piece : FnH l.prog w K mg base 3 "is_piece" ["thing"] (spLookD pieceY) := ⟨_, _, ok_is_piece F9 B De De.m (PySem.W.mg_of X G e_MOST_LETTERS) G_fields_ascend G_is_piece_part, b9, k9, PySem.W.mg_of X G a9⟩
  have F10 := fun_mk (st := s_is_name) l10 c10 k10
  have b10 := F10.binds (ps := ["thing"]) fun _ _ _ _ _ _ us hl => match us, hl with | [_], _ => rfl
  have G_is_name : FnH l.prog w K mg base 2 "is_name" ["thing"] (spLookD fieldY) := ⟨_, _, ok_is_name F10 B De De.m (PySem.W.mg_of X G e_MOST_LETTERS) G_is_field, b10, k10, PySem.W.mg_of X G a10⟩
  have F11 := fun_mk (st := s_is_from_nought) l11 c11 k11
  have b11 := F11.binds (ps := ["thing"]) fun _ _ _ _ _ _ us hl => match us, hl with | [_], _ => rfl
  have G_is_from_nought : FnH l.prog w K mg base 2 "is_from_nought" ["thing"] (spLookD natY) := ⟨_, _, ok_is_from_nought F11 B De De.m (PySem.W.mg_of X G e_MOST_LETTERS) G_is_whole, b11, k11, PySem.W.mg_of X G a11⟩
  have F12 := fun_mk (st := s_is_part) l12 c12 k12
  have b12 := F12.binds (ps := ["kind", "thing"]) fun _ _ _ _ _ _ us hl => match us, hl with | [_, _], _ => rfl
  have G_is_part : FnH l.prog w K mg base 6 "is_part" ["kind", "thing"] (spPartK) := ⟨_, _, ok_is_part F12 B De De.m (PySem.W.mg_of X G e_MOST_LETTERS) G_is_name G_is_from_nought G_is_wish G_is_piece, b12, k12, PySem.W.mg_of X G a12⟩
  have F13 := fun_mk (st := s_is_deed) l13 c13 k13
  have b13 := F13.binds (ps := ["thing"]) fun _ _ _ _ _ _ us hl => match us, hl with | [_], _ => rfl
  have G_is_deed : FnH l.prog w K mg base 7 "is_deed" ["thing"] (spLookD deedY) := ⟨_, _, ok_is_deed F13 B De De.m (PySem.W.mg_of X G e_MOST_LETTERS) G_is_part, b13, k13, PySem.W.mg_of X G a13⟩
  have F14 := fun_mk (st := s_law_bag) l14 c14 k14
  have b14 := F14.binds (ps := ["script"]) fun _ _ _ _ _ _ us hl => match us, hl with | [_], _ => rfl
  have G_law_bag : FnH l.prog w K mg base 1 "_law_bag" ["script"] (spBag K) := ⟨_, _, ok_law_bag F14 B De De.m (PySem.W.mg_of X G e_MOST_LETTERS) , b14, k14, PySem.W.mg_of X G a14⟩
  have F15 := fun_mk (st := s_law_draw) l15 c15 k15
  have b15 := F15.binds (ps := ["bag", "many"]) fun _ _ _ _ _ _ us hl => match us, hl with | [_, _], _ => rfl
  have G_law_draw : FnH l.prog w K mg base 1 "_law_draw" ["bag", "many"] (spDraw) := ⟨_, _, ok_law_draw F15 B De De.m (PySem.W.mg_of X G e_MOST_LETTERS) , b15, k15, PySem.W.mg_of X G a15⟩
  have F16 := fun_mk (st := s_law_number) l16 c16 k16
  have b16 := F16.binds (ps := ["bag"]) fun _ _ _ _ _ _ us hl => match us, hl with | [_], _ => rfl
  have G_law_number : FnH l.prog w K mg base 2 "_law_number" ["bag"] (spNum1) := ⟨_, _, ok_law_number F16 B De De.m (PySem.W.mg_of X G e_MOST_LETTERS) G_law_draw, b16, k16, PySem.W.mg_of X G a16⟩
  have F17 := fun_mk (st := s_law_span) l17 c17 k17
  have b17 := F17.binds (ps := ["bag"]) fun _ _ _ _ _ _ us hl => match us, hl with | [_], _ => rfl
  have G_law_span : FnH l.prog w K mg base 3 "_law_span" ["bag"] (spSpan1) := ⟨_, _, ok_law_span F17 B De De.m (PySem.W.mg_of X G e_MOST_LETTERS) G_law_draw G_law_number, b17, k17, PySem.W.mg_of X G a17⟩
  have F18 := fun_mk (st := s_law_whole) l18 c18 k18
  have b18 := F18.binds (ps := ["found"]) fun _ _ _ _ _ _ us hl => match us, hl with | [_], _ => rfl
  have G_law_whole : FnH l.prog w K mg base 1 "_law_whole" ["found"] (spWhole K) := ⟨_, _, ok_law_whole F18 B De De.m (PySem.W.mg_of X G e_MOST_LETTERS) , b18, k18, PySem.W.mg_of X G a18⟩
  have F19 := fun_mk (st := s_law_field) l19 c19 k19
  have b19 := F19.binds (ps := ["bag"]) fun _ _ _ _ _ _ us hl => match us, hl with | [_], _ => rfl
  have G_law_field : FnH l.prog w K mg base 2 "_law_field" ["bag"] (spLawField) := ⟨_, _, ok_law_field F19 B De De.m (PySem.W.mg_of X G e_MOST_LETTERS) G_law_draw, b19, k19, PySem.W.mg_of X G a19⟩
  have F20 := fun_mk (st := s_law_fields) l20 c20 k20
  have b20 := F20.binds (ps := ["bag", "most"]) fun _ _ _ _ _ _ us hl => match us, hl with | [_, _], _ => rfl
  have G_law_fields : FnH l.prog w K mg base 3 "_law_fields" ["bag", "most"] (spLF20) := ⟨_, _, ok_law_fields F20 B De De.m (PySem.W.mg_of X G e_MOST_LETTERS) G_law_field G_law_draw, b20, k20, PySem.W.mg_of X G a20⟩
  have F21 := fun_mk (st := s_law_plain) l21 c21 k21
  have b21 := F21.binds (ps := ["bag", "deep"]) fun _ _ _ _ _ _ us hl => match us, hl with | [_, _], _ => rfl
  have G_law_plain : FnH l.prog w K mg base 6 "_law_plain" ["bag", "deep"] (spUpTo 2 spPlN) := ⟨_, _, ok_law_plain F21 B De De.m (PySem.W.mg_of X G e_MOST_LETTERS) G_law_draw G_law_number (PySem.W.mg_of X G a21), b21, k21, PySem.W.mg_of X G a21⟩
  have F22 := fun_mk (st := s_law_is_field) l22 c22 k22
  have b22 := F22.binds (ps := ["thing"]) fun _ _ _ _ _ _ us hl => match us, hl with | [_], _ => rfl
  have G_law_is_field : FnH l.prog w K mg base 1 "_law_is_field" ["thing"] (spLookD fieldY) := ⟨_, _, ok_law_is_field F22 B De De.m (PySem.W.mg_of X G e_MOST_LETTERS) , b22, k22, PySem.W.mg_of X G a22⟩
  have F23 := fun_mk (st := s_law_is_span) l23 c23 k23
  have b23 := F23.binds (ps := ["low", "high"]) fun _ _ _ _ _ _ us hl => match us, hl with | [_, _], _ => rfl
  have G_law_is_span : FnH l.prog w K mg base 2 "_law_is_span" ["low", "high"] (spIsSp2) := ⟨_, _, ok_law_is_span F23 B De De.m (PySem.W.mg_of X G e_MOST_LETTERS) G_law_whole, b23, k23, PySem.W.mg_of X G a23⟩
  have F24 := fun_mk (st := s_law_is_made) l24 c24 k24
  have b24 := F24.binds (ps := ["thing", "size"]) fun _ _ _ _ _ _ us hl => match us, hl with | [_, _], _ => rfl
  have G_law_is_made : FnH l.prog w K mg base 3 "_law_is_made" ["thing", "size"] (spMade) := ⟨_, _, ok_law_is_made F24 B De De.m (PySem.W.mg_of X G e_MOST_LETTERS) G_law_is_field G_law_is_span G_law_whole, b24, k24, PySem.W.mg_of X G a24⟩
  have F25 := fun_mk (st := s_law_copied) l25 c25 k25
  have b25 := F25.binds (ps := ["thing"]) fun _ _ _ _ _ _ us hl => match us, hl with | [_], _ => rfl
  have G_law_copied : FnH l.prog w K mg base 14 "_law_copied" ["thing"] (spUpTo 12 spCopN) := ⟨_, _, ok_law_copied F25 B De De.m (PySem.W.mg_of X G e_MOST_LETTERS)  (PySem.W.mg_of X G a25), b25, k25, PySem.W.mg_of X G a25⟩
  have F26 := fun_mk (st := s_law_made) l26 c26 k26
  have b26 := F26.binds (ps := ["bag", "size"]) fun _ _ _ _ _ _ us hl => match us, hl with | [_, _], _ => rfl
  have G_law_made : FnH l.prog w K mg base 4 "_law_made" ["bag", "size"] (spMade8) := ⟨_, _, ok_law_made F26 B De De.m (PySem.W.mg_of X G e_MOST_LETTERS) G_law_fields G_law_span G_law_draw G_law_number, b26, k26, PySem.W.mg_of X G a26⟩
  have F27 := fun_mk (st := s_law_post) l27 c27 k27
  have b27 := F27.binds (ps := ["bag"]) fun _ _ _ _ _ _ us hl => match us, hl with | [_], _ => rfl
  have G_law_post : FnH l.prog w K mg base 2 "_law_post" ["bag"] (spPost8) := ⟨_, _, ok_law_post F27 B De De.m (PySem.W.mg_of X G e_MOST_LETTERS) G_law_draw, b27, k27, PySem.W.mg_of X G a27⟩
  have F28 := fun_mk (st := s_law_good) l28 c28 k28
  have b28 := F28.binds (ps := ["bag"]) fun _ _ _ _ _ _ us hl => match us, hl with | [_], _ => rfl
  have G_law_good : FnH l.prog w K mg base 5 "_law_good" ["bag"] (spGood8) := ⟨_, _, ok_law_good F28 B De De.m (PySem.W.mg_of X G e_MOST_LETTERS) G_law_draw G_law_field G_law_post G_law_made, b28, k28, PySem.W.mg_of X G a28⟩
  have F29 := fun_mk (st := s_law_odd) l29 c29 k29
  have b29 := F29.binds (ps := ["bag", "part"]) fun _ _ _ _ _ _ us hl => match us, hl with | [_, _], _ => rfl
  have G_law_odd : FnH l.prog w K mg base 7 "_law_odd" ["bag", "part"] (spOdd8) := ⟨_, _, ok_law_odd F29 B De De.m (PySem.W.mg_of X G e_MOST_LETTERS) G_law_draw G_law_plain, b29, k29, PySem.W.mg_of X G a29⟩
  have F30 := fun_mk (st := s_law_spoilt) l30 c30 k30
  have b30 := F30.binds (ps := ["bag", "thing"]) fun _ _ _ _ _ _ us hl => match us, hl with | [_, _], _ => rfl
  have G_law_spoilt : FnH l.prog w K mg base 17 "_law_spoilt" ["bag", "thing"] (spUpTo 8 spSpo8) := ⟨_, _, ok_law_spoilt F30 B De De.m (PySem.W.mg_of X G e_MOST_LETTERS) G_law_draw G_law_odd (PySem.W.mg_of X G a30), b30, k30, PySem.W.mg_of X G a30⟩
  have F31 := fun_mk (st := s_law_is_deed) l31 c31 k31
  have b31 := F31.binds (ps := ["thing"]) fun _ _ _ _ _ _ us hl => match us, hl with | [_], _ => rfl
  have G_law_is_deed : FnH l.prog w K mg base 4 "_law_is_deed" ["thing"] (spLookD deedY) := ⟨_, _, ok_law_is_deed F31 B De De.m (PySem.W.mg_of X G e_MOST_LETTERS) G_law_is_made G_law_is_field G_law_whole, b31, k31, PySem.W.mg_of X G a31⟩
  have F32 := fun_mk (st := s_law) l32 c32 k32
  exact ok_law F32 B De De.m (PySem.W.mg_of X G e_MOST_LETTERS) G_law_bag G_law_draw G_law_copied G_law_good G_law_plain G_is_deed G_law_spoilt G_law_is_deed
theorem walk {l : PySem.W.OpenLaw} {q : Program} {loose : List Str} {XP : (Str → Option Value) → Heap → Prop} {YP : World → Heap → Prop} {d : DefRec} {K : Params → PySem.W.Frag} (hn : l.most = some 63) (hdf : d.params.defaults = [])
    (hY : ∀ (w : World) (h : Heap), YP w h → (K w.params).In h)
    (F : ∀ (w : World) (mg : Str → Option Value) (fa : Addr) (h : Heap), (K w.params).In h → h.Ns mainGlobals mg → mg d.name = some (.ref fa) →
      ∃ fd : FuncData, (∀ (s : Shared) (u : Value), BindsTo s fd ⟨[u], []⟩ [("script", u)]) ∧ ∀ base : Heap, (K w.params).In base → base.Ns mainGlobals mg → FnOk l.prog w (K w.params) mg base CX0 18 fa fd ["script"] (spLaw (K w.params))) :
    PySem.W.WalkO q loose XP YP l.row.toRowW d [] (fun f vs => PySem.call f vs) :=
  L2.walk_of (n := 63) (k := 18) (x := "script") (CX := fun _ => CX0) (sp := fun w => spLaw (K w.params)) hn (by decide) hdf ⟨rfl, by decide, by decide, rfl⟩ hY F (fun _ _ a ns hl _ hS => ⟨a, ns, rfl, hS, hl, fun _ => rfl⟩) fun _ _ _ _ _ z => z
end K68
namespace PySem.W.Fast
def tw1204815022575671328 := 0
def tw11011027162167575616 := 0
def tw3115669089872105600 := 0
def tw9574157823059304576 := 0
def tw2585855122820408448 := 0
def tw10894755864852748032 := 0
def tw3910914605524372448 := 0
def tw9818264854313192513 := 0
def tw15380938839377531137 := 0
def tw11187503391115638657 := 0
def tw3879523061877649506 := 0
def tw8949201839513301090 := 0
def tw6317409112492128610 := 0
def tw16851752607633707522 := 0
def tw14301639682124485602 := 0
def tw12730019045564970211 := 0
def tw15108400381180716355 := 0
def tw13382087329768784227 := 0
def tw18208707752587814243 := 0
def tw9171738079125089699 := 0
def tw5720886201536933507 := 0
def tw7383684904294423203 := 0
def tw7201577080585795459 := 0
def tw7159826555870729252 := 0
def tw11241428792801420516 := 0
def tw6361930436417312196 := 0
def tw5239815155396429284 := 0
def tw3830636155348989444 := 0
def tw17833038493078865476 := 0
def tw1162286448222045796 := 0
def tw10695144886964813668 := 0
def tw13186888274158965797 := 0
def tw17332731454812991621 := 0
def tw8067356486036361381 := 0
def tw9509288230815092005 := 0
def tw15710735770917262693 := 0
def tw2198296856106235269 := 0
def tw784193543902096901 := 0
def tw9652345973004196357 := 0
def tw5720080749709541925 := 0
def tw15812417685225625445 := 0
def tw2181452379610179525 := 0
def tw17534952317129623814 := 0
def tw3564450286979097894 := 0
def tw17220141498307449542 := 0
def tw13718640333778046023 := 0
def tw10213138587156062375 := 0
def tw16023587730969636103 := 0
def tw5849358821413085639 := 0
def tw8370207777707889127 := 0
def tw2570077205391500775 := 0
def tw15555583931410858535 := 0
def tw693767127215825543 := 0
def tw10573697396812283912 := 0
def tw6875061755403116744 := 0
def tw611319362894724648 := 0
def tw10685558607560666920 := 0
def tw12909026896440106185 := 0
def tw11710113005519351433 := 0
def tw14892289741773226889 := 0
def tw10926897611583669225 := 0
def tw6187665559046448362 := 0
def tw1549423862104768906 := 0
def tw18126763154959708618 := 0
def tw13415586445804285610 := 0
def tw7425974660800907018 := 0
def tw4269641170280789802 := 0
def tw7714794032097321067 := 0
def tw12507688874890984683 := 0
def tw10883603603931487723 := 0
def tw17417909302268226475 := 0
def tw6399895065867042892 := 0
def tw10535256497722864812 := 0
def tw706354321019413868 := 0
def tw4487262313191694764 := 0
def tw2961855257459617452 := 0
def tw209298922324303628 := 0
def tw15941495148076755884 := 0
def tw7234567640928697421 := 0
def tw16756158480514181741 := 0
def tw12045608697688949389 := 0
def tw4869291089449784013 := 0
def tw6156542013416942317 := 0
def tw11329088270071660365 := 0
def tw4278423461475213229 := 0
def tw12558731521043186605 := 0
def tw4090896064971179086 := 0
def tw15817778775603411214 := 0
def tw8611663442291677486 := 0
def tw11680659397744795950 := 0
def tw4868839930153094478 := 0
def tw17122536749632726382 := 0
def tw11197539654600114862 := 0
def tw10168197252997725934 := 0
def tw603607633218043662 := 0
def tw16255650971462446894 := 0
def tw16442297014315736655 := 0
def tw7376576496874267311 := 0
def tw15604329463090282864 := 0
def tw15386432911415258704 := 0
def tw16061296668016330416 := 0
def tw17692326175602036560 := 0
def tw3133306449231855600 := 0
def tw3617692544755961073 := 0
def tw16046598307728571697 := 0
def tw14167844146721321329 := 0
def tw9631450926480578481 := 0
def tw6747420422920106194 := 0
def tw10007649361030039954 := 0
def tw2701016283535617746 := 0
def tw14712313920329576274 := 0
def tw17003493669488341906 := 0
def tw3578172939822666867 := 0
def tw16520886089838430451 := 0
def tw10485703937058920755 := 0
def tw146997473777714675 := 0
def tw14508724861865154099 := 0
def tw8164457025351276147 := 0
def tw12745388084994336467 := 0
def tw14530586229418834675 := 0
def tw6183471013438650291 := 0
def tw15491136674933016531 := 0
def tw14314204967330764916 := 0
def tw14233857704505634420 := 0
def tw15326096387189578612 := 0
def tw10338948529187232853 := 0
def tw4047872015855523477 := 0
def tw2959528354775348053 := 0
def tw6180883788144936214 := 0
def tw8862199341666864694 := 0
def tw14833414668597769814 := 0
def tw5140286568810719894 := 0
def tw14988190362061533910 := 0
def tw998500639917116182 := 0
def tw2414542008253951830 := 0
def tw4944531105925500151 := 0
def tw3747978560591216247 := 0
def tw16975643799232128727 := 0
def tw6792782830524936023 := 0
def tw1307530828426009527 := 0
def tw17114806586510021688 := 0
def tw8383196682034953336 := 0
def tw5667042480121928920 := 0
def tw12973551169265587608 := 0
def tw10100368873833250296 := 0
def tw5263659597713006072 := 0
def tw14419841366958287576 := 0
def tw13605215256939915096 := 0
def tw768515991727932408 := 0
def tw13099162323877489721 := 0
def tw15236209854112122105 := 0
def tw8658542191279929849 := 0
def tw6668028159358506521 := 0
def tw1368784397965052441 := 0
def tw10873711061610354233 := 0
def tw12248747017104951289 := 0
def tw17398158036953150714 := 0
def tw16078973378123363834 := 0
def tw12930940876376040154 := 0
def tw4123546603563573339 := 0
def tw12712339911531122779 := 0
def tw4362615244807384635 := 0
def tw6625495741148076635 := 0
def tw6617899751361648315 := 0
def tw9425090754931043740 := 0
def tw7926049230498484988 := 0
def tw17797334126618851100 := 0
def tw17724728592675736444 := 0
def tw1987550789922900956 := 0
def tw9209879349582901212 := 0
def tw4637002554126461181 := 0
def tw5374792010919487741 := 0
def tw9660055552806385085 := 0
def tw15414390528530850269 := 0
def tw12006038535405763197 := 0
def tw18003555249681683101 := 0
def tw18074123616397435198 := 0
def tw5636083725987313214 := 0
def tw13145793363283899294 := 0
def tw12279803679860789343 := 0
def tw6429736909838059903 := 0
def tw1794425077745070623 := 0
def tw5743128237753877023 := 0
def tw16719819853164121663 := 0
def tw10114291867697788543 := 0
end PySem.W.Fast
open PySem PySem.W PyProof.Rows
set_option maxRecDepth 100000 in
set_option maxHeartbeats 0 in
theorem PySem.Challenge.cw_newsways_k68_what_is_a_deed_holds : PySem.Challenge.rw_newsways_k68_what_is_a_deed.Holds := by
  w_on; o_law; k_head; (case hw => w_witness2)
  k_fill
  refine K68.walk (l := PySem.Challenge.rw_newsways_k68_what_is_a_deed) rfl rfl (fun w h Y => PySem.W.kIn_of Y) ?F
  case F =>
    intro w mg fa h KX G hmg
    refine' K68.all_mk KX G hmg ?a1 ?l1 ?c1 ?k1 ?a2 ?l2 ?c2 ?k2 ?a3 ?l3 ?c3 ?k3 ?a4 ?l4 ?c4 ?k4 ?a5 ?l5 ?c5 ?k5 ?a6 ?l6 ?c6 ?k6 ?a7 ?l7 ?c7 ?k7 ?a8 ?l8 ?c8 ?k8 ?a9 ?l9 ?c9 ?k9 ?a10 ?l10 ?c10 ?k10 ?a11 ?l11 ?c11 ?k11 ?a12 ?l12 ?c12 ?k12 ?a13 ?l13 ?c13 ?k13 ?a14 ?l14 ?c14 ?k14 ?a15 ?l15 ?c15 ?k15 ?a16 ?l16 ?c16 ?k16 ?a17 ?l17 ?c17 ?k17 ?a18 ?l18 ?c18 ?k18 ?a19 ?l19 ?c19 ?k19 ?a20 ?l20 ?c20 ?k20 ?a21 ?l21 ?c21 ?k21 ?a22 ?l22 ?c22 ?k22 ?a23 ?l23 ?c23 ?k23 ?a24 ?l24 ?c24 ?k24 ?a25 ?l25 ?c25 ?k25 ?a26 ?l26 ?c26 ?k26 ?a27 ?l27 ?c27 ?k27 ?a28 ?l28 ?c28 ?k28 ?a29 ?l29 ?c29 ?k29 ?a30 ?l30 ?c30 ?k30 ?a31 ?l31 ?c31 ?k31 ?a32 ?l32 ?c32 ?k32 ?e_MOST_LETTERS ?y_D ?y_l ?y_m ?y_k ?y_e ?y_t1 ?y_v1 ?y_s1 ?y_t2 ?y_v2 ?y_s2 ?y_t3 ?y_v3 ?y_s3 ?y_t4 ?y_v4 ?y_s4 ?y_t5 ?y_v5 ?y_s5 ?y_t6 ?y_v6 ?y_s6 ?y_t7 ?y_v7 ?y_s7 ?y_t8 ?y_v8 ?y_s8 ?z_len ?z_range ?z_isinstance ?z_int ?z_bool ?z_tuple ?z_list ?z_max ?z_min ?z_all ?z_zip ?z_str ?z_dict ?z_sorted ?z_set ?z_any ?z_sum ?z_enumerate ?z_repr ?z_ord ?z_chr ?z_abs ?z_reversed
    (case a1 => k_is); (case l1 => k_is); (case c1 => k_is); (case k1 => k_is)
    (case a2 => k_is); (case l2 => k_is); (case c2 => k_is); (case k2 => k_is)
    (case a3 => k_is); (case l3 => k_is); (case c3 => k_is); (case k3 => k_is)
    (case a4 => k_is); (case l4 => k_is); (case c4 => k_is); (case k4 => k_is)
    (case a5 => k_is); (case l5 => k_is); (case c5 => k_is); (case k5 => k_is)
    (case a6 => k_is); (case l6 => k_is); (case c6 => k_is); (case k6 => k_is)
    (case a7 => k_is); (case l7 => k_is); (case c7 => k_is); (case k7 => k_is)
    (case a8 => k_is); (case l8 => k_is); (case c8 => k_is); (case k8 => k_is)
    (case a9 => k_is); (case l9 => k_is); (case c9 => k_is); (case k9 => k_is)
    (case a10 => k_is); (case l10 => k_is); (case c10 => k_is); (case k10 => k_is)
    (case a11 => k_is); (case l11 => k_is); (case c11 => k_is); (case k11 => k_is)
    (case a12 => k_is); (case l12 => k_is); (case c12 => k_is); (case k12 => k_is)
    (case a13 => k_is); (case l13 => k_is); (case c13 => k_is); (case k13 => k_is)
    (case a14 => k_is); (case l14 => k_is); (case c14 => k_is); (case k14 => k_is)
    (case a15 => k_is); (case l15 => k_is); (case c15 => k_is); (case k15 => k_is)
    (case a16 => k_is); (case l16 => k_is); (case c16 => k_is); (case k16 => k_is)
    (case a17 => k_is); (case l17 => k_is); (case c17 => k_is); (case k17 => k_is)
    (case a18 => k_is); (case l18 => k_is); (case c18 => k_is); (case k18 => k_is)
    (case a19 => k_is); (case l19 => k_is); (case c19 => k_is); (case k19 => k_is)
    (case a20 => k_is); (case l20 => k_is); (case c20 => k_is); (case k20 => k_is)
    (case a21 => k_is); (case l21 => k_is); (case c21 => k_is); (case k21 => k_is)
    (case a22 => k_is); (case l22 => k_is); (case c22 => k_is); (case k22 => k_is)
    (case a23 => k_is); (case l23 => k_is); (case c23 => k_is); (case k23 => k_is)
    (case a24 => k_is); (case l24 => k_is); (case c24 => k_is); (case k24 => k_is)
    (case a25 => k_is); (case l25 => k_is); (case c25 => k_is); (case k25 => k_is)
    (case a26 => k_is); (case l26 => k_is); (case c26 => k_is); (case k26 => k_is)
    (case a27 => k_is); (case l27 => k_is); (case c27 => k_is); (case k27 => k_is)
    (case a28 => k_is); (case l28 => k_is); (case c28 => k_is); (case k28 => k_is)
    (case a29 => k_is); (case l29 => k_is); (case c29 => k_is); (case k29 => k_is)
    (case a30 => k_is); (case l30 => k_is); (case c30 => k_is); (case k30 => k_is)
    (case a31 => k_is); (case l31 => k_is); (case c31 => k_is); (case k31 => k_is)
    (case a32 => k_is); (case l32 => k_is); (case c32 => k_is); (case k32 => k_is)
    (case e_MOST_LETTERS => k_is)
    (case y_D => k_is)
    (case y_l => k_is)
    (case y_m => first | k_is | rfl | decide | (with_unfolding_all rfl))
    (case y_k => k_keys)
    (case y_e => repeat (first | exact L2.Ents.nil | refine L2.Ents.cons rfl rfl ?_))
    (case y_t1 => k_is)
    (case y_v1 => repeat (first | exact .nil | refine .cons ⟨_, rfl⟩ ?_))
    (case y_s1 => decide)
    (case y_t2 => k_is)
    (case y_v2 => repeat (first | exact .nil | refine .cons ⟨_, rfl⟩ ?_))
    (case y_s2 => decide)
    (case y_t3 => k_is)
    (case y_v3 => repeat (first | exact .nil | refine .cons ⟨_, rfl⟩ ?_))
    (case y_s3 => decide)
    (case y_t4 => k_is)
    (case y_v4 => repeat (first | exact .nil | refine .cons ⟨_, rfl⟩ ?_))
    (case y_s4 => decide)
    (case y_t5 => k_is)
    (case y_v5 => repeat (first | exact .nil | refine .cons ⟨_, rfl⟩ ?_))
    (case y_s5 => decide)
    (case y_t6 => k_is)
    (case y_v6 => repeat (first | exact .nil | refine .cons ⟨_, rfl⟩ ?_))
    (case y_s6 => decide)
    (case y_t7 => k_is)
    (case y_v7 => repeat (first | exact .nil | refine .cons ⟨_, rfl⟩ ?_))
    (case y_s7 => decide)
    (case y_t8 => k_is)
    (case y_v8 => repeat (first | exact .nil | refine .cons ⟨_, rfl⟩ ?_))
    (case y_s8 => decide)
    (case z_len => k_is); (case z_range => k_is); (case z_isinstance => k_is); (case z_int => k_is); (case z_bool => k_is); (case z_tuple => k_is); (case z_list => k_is); (case z_max => k_is); (case z_min => k_is); (case z_all => k_is); (case z_zip => k_is); (case z_str => k_is); (case z_dict => k_is); (case z_sorted => k_is); (case z_set => k_is); (case z_any => k_is); (case z_sum => k_is); (case z_enumerate => k_is); (case z_repr => k_is); (case z_ord => k_is); (case z_chr => k_is); (case z_abs => k_is); (case z_reversed => k_is)
