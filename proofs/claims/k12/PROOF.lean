import PyProof.Rows.All
import Wide.All
import OpenK.AllK
import Wide.FinOn
import Lean
import PyProof.EqAt
import PyProof.EqKinds
import PyProof.TupleCall
import PyProof.NeKinds
import KE.IntBitsLaws
import PyProof.StrWalks
import PyProof.FString5
import PyProof.ConsumeWalk
import PyProof.DictCompW
import PyProof.ZipIter
import PyProof.AttrMissHeap
import PyProof.ListNew
import PyProof.DictUpdate
import PyProof.EnumMake
import PyProof.Rows.SetFrom
import KE.KRevSl
import PyProof.FitsBits
import PyProof.Rows.SortStr
import PyProof.StrBlockL
import PyProof.JoinWalk
import PyProof.Rows.StrMeet
import PyProof.DictWalks
import KE.KSortTup
import KE.KSortKey
import PyProof.Rows.SortRuns
import PyProof.StationsW
import PyProof.RulesAs
import OpenK.KRaise
import PyProof.ExcInit
import PyProof.ExcBaseAll.ValueError
import PyProof.PassesOwn
import PyProof.NsDelKeeps
import PyProof.Rows.Catch
import PyProof.FString
import PyProof.Rows.FStr
import PyProof.ExcArgs
import PyProof.ExcAttrAll.ValueError
import PyProof.Rows.SortWalk
import PyProof.ListRange
import PyProof.ReprRoads
import PyProof.ReprText
import PyProof.CallFns
import KE.KEqDict
import PyProof.AutoListH
import PyProof.SliceStr2
import PyProof.StrOps2
import PyProof.Rows.StrMadeLen
import PyProof.StrLawsIn
import PySem.Challenge.RW_newsways_k12_covered_together_by_trial
set_option Elab.async false
set_option linter.all false
set_option maxRecDepth 100000
namespace L2
open PySem PySem.Spec PyProof.Rows
abbrev Key := Sum Int Str
def zgS : Key → Value → Bool
 | .inl k, v => Value.isInt k v
 | .inr x, v => Value.isStrOf x v
def keyH (w : World) : Key → Int
 | .inl k => hashInt k
 | .inr x => hashStr w x
theorem zaN : ∀ {k : Key} {v : Value}, zgS k v = true → (∃ i t, k = Sum.inl i ∧ v = Value.int i t) ∨ (∃ x t, k = Sum.inr x ∧ v = Value.str x t)
 | .inl i, v, h => by
  obtain ⟨t, e⟩ := Value.isInt_shape (k := i) (v := v) h
  exact .inl ⟨i, t, rfl, e⟩
 | .inr x, v, h => by
  obtain ⟨t, e⟩ := Value.isStrOf_shape (x := x) (v := v) h
  exact .inr ⟨x, t, rfl, e⟩
theorem ziW (i : Int) (t : Tok) : zgS (.inl i) (.int i t) = true := by simp [zgS, Value.isInt]
theorem ziV (x : Str) (t : Tok) : zgS (.inr x) (.str x t) = true := by simp [zgS, Value.isStrOf]
theorem zlD (a b : Int) : decide ((Sum.inl a : Key) = Sum.inl b) = (a == b) := by
 by_cases e : a = b
 · subst e; simp
 · have h : ¬ (Sum.inl a : Key) = Sum.inl b := fun q => e (Sum.inl.inj q)
   rw [decide_eq_false h]
   exact (beq_eq_false_iff_ne.mpr e).symm
theorem zlA (a b : Str) : decide ((Sum.inr a : Key) = Sum.inr b) = decide (a = b) := by
 by_cases e : a = b
 · subst e; simp
 · have h : ¬ (Sum.inr a : Key) = Sum.inr b := fun q => e (Sum.inr.inj q)
   rw [decide_eq_false h, decide_eq_false e]
theorem zlC (a : Int) (b : Str) : decide ((Sum.inl a : Key) = Sum.inr b) = false := decide_eq_false (fun q => nomatch q)
theorem zlB (a : Str) (b : Int) : decide ((Sum.inr a : Key) = Sum.inl b) = false := decide_eq_false (fun q => nomatch q)
def zaE (prog : Program) (w : World) : PySem.KeyKind prog w Key where
 is := zgS
 hash := keyH w
 inj := fun v a b ha hb => by
  rcases zaN ha with ⟨i, t, rfl, rfl⟩ | ⟨x, t, rfl, rfl⟩
  · rcases zaN hb with ⟨j, u, rfl, e⟩ | ⟨y, u, rfl, e⟩
    · injection e with e1 _; rw [e1]
    · exact nomatch e
  · rcases zaN hb with ⟨j, u, rfl, e⟩ | ⟨y, u, rfl, e⟩
    · exact nomatch e
    · injection e with e1 _; rw [e1]
 byValue := fun k v h => by
  rcases zaN h with ⟨i, t, rfl, rfl⟩ | ⟨x, t, rfl, rfl⟩ <;> rfl
 pyHash := fun hv h => by
  rcases zaN hv with ⟨i, t, rfl, rfl⟩ | ⟨x, t, rfl, rfl⟩
  · exact wpAny_pyHash_int h
  · exact wpAny_pyHash_str h
 eqBool := fun hu hv h => by
  rcases zaN hu with ⟨i, t, rfl, rfl⟩ | ⟨x, t, rfl, rfl⟩
  · rcases zaN hv with ⟨j, u, rfl, rfl⟩ | ⟨y, u, rfl, rfl⟩
    · rw [zlD] at h; exact wpAny_eqBool_int h
    · rw [zlC] at h; exact SeqAt.EqAt.int_str i t y u _ _ _ _ h
  · rcases zaN hv with ⟨j, u, rfl, rfl⟩ | ⟨y, u, rfl, rfl⟩
    · rw [zlB] at h; exact SeqAt.EqAt.str_int x t j u _ _ _ _ h
    · rw [zlA] at h; exact wpAny_eqBool_str h
 «strs» := fun k x t v h => by
  rcases zaN h with ⟨i, u, rfl, e⟩ | ⟨y, u, rfl, e⟩
  · exact nomatch e
  · injection e with e1 _
    subst e1
    cases v <;> rfl
theorem zhQ (prog : Program) (w : World) (k : Key) (v : Value) : (zaE prog w).is k v = zgS k v := rfl
theorem zgO (prog : Program) (w : World) (i : Int) (t : Tok) : (zaE prog w).is (.inl i) (.int i t) = true := ziW i t
theorem zgN (prog : Program) (w : World) (x : Str) (t : Tok) : (zaE prog w).is (.inr x) (.str x t) = true := ziV x t
inductive V where
 | non | bl (b : Bool) | int (i : Int) | str (x : Str) | byt (b : Array UInt8) | flt (b : UInt64) | ref (a : Addr) | ty (n : String)
 deriving DecidableEq
def RelV : V → Value → Prop
 | .non, u => u = Value.none
 | .bl b, u => u = Value.bool b
 | .int i, u => ∃ t, u = Value.int i t
 | .str x, u => ∃ t, u = Value.str x t
 | .byt b, u => ∃ t, u = Value.bytes b t
 | .flt b, u => ∃ t, u = Value.float b t
 | .ref a, u => u = Value.ref a
 | .ty n, u => u = Value.type n
abbrev Vals : List V → List Value → Prop := Paired RelV
theorem Vals.length {xs : List V} {us : List Value} (r : Vals xs us) : xs.length = us.length := Paired.length r
theorem Vals.get : ∀ {xs : List V} {us : List Value} {i : Nat} {x : V}, Vals xs us → xs[i]? = some x → ∃ u, us[i]? = some u ∧ RelV x u
 | _, _, _, _, .nil, e => by simp at e
 | _, _, 0, _, .cons r _, e => by simp at e; subst e; exact ⟨_, rfl, r⟩
 | _, _, i + 1, x, .cons _ t, e => by
  obtain ⟨u, h1, h2⟩ := Vals.get (i := i) (x := x) t (by simpa using e)
  exact ⟨u, by simpa using h1, h2⟩
theorem Vals.set {x : V} {u : Value} (r : RelV x u) : ∀ {xs : List V} {us : List Value} (i : Nat), Vals xs us → Vals (xs.set i x) (us.set i u)
 | _, _, _, .nil => .nil
 | _, _, 0, .cons _ t => .cons r t
 | _, _, i + 1, .cons q t => .cons q (Vals.set r i t)
theorem Vals.append : ∀ {xs ys : List V} {us ws : List Value}, Vals xs us → Vals ys ws → Vals (xs ++ ys) (us ++ ws)
 | _, _, _, _, .nil, s => s
 | _, _, _, _, .cons r t, s => .cons r (Vals.append t s)
theorem Vals.take : ∀ {xs : List V} {us : List Value} (n : Nat), Vals xs us → Vals (xs.take n) (us.take n)
 | _, _, 0, _ => .nil
 | _, _, _ + 1, .nil => .nil
 | _, _, n + 1, .cons r t => .cons r (Vals.take n t)
theorem Vals.drop : ∀ {xs : List V} {us : List Value} (n : Nat), Vals xs us → Vals (xs.drop n) (us.drop n)
 | _, _, 0, r => r
 | _, _, _ + 1, .nil => .nil
 | _, _, n + 1, .cons _ t => Vals.drop n t
def RelO : Option V → Option Value → Prop
 | some v, some u => RelV v u
 | none, none => True
 | _, _ => False
def KV {κ : Type} : List (κ × V) → List (κ × Value) → Prop := Paired fun (p : κ × V) (q : κ × Value) => p.1 = q.1 ∧ RelV p.2 q.2
def kV : Key → V
 | .inl i => .int i
 | .inr x => .str x
inductive HO where
 | lst (xs : List V)
 | tup (xs : List V)
 | dK (kvs : List (Key × V)) | dT (kvs : List (List Key × V))
 | set (S : Int → Bool) (n : Nat)
 | ins (C dx : Addr) (fs : List (Str × V))
 | own (x : Addr)
 | xd (fs : List (Str × V))
 | met (f x : Addr)
 | rng (lo hi : Int)
 | frz (o : Obj) (u : HO)
 | tbl (ps : Array Value)
 | ext (φ : Heap → Prop)
def IsTupP (h : Heap) (a : Addr) (items : Array Value) : Prop := ∃ o, h.get? a = some o ∧ o.cls = .type "tuple" ∧ o.dict = none ∧ ∃ n, o.data = .seq items n
theorem IsTupP.tup {h : Heap} {a : Addr} {items : Array Value} (x : IsTupP h a items) : IsTup h a items := let ⟨o, h1, h2, _, h3⟩ := x; ⟨o, h1, h2, h3⟩
theorem IsTupP.new (h : Heap) (items : Array Value) : IsTupP (h.push { cls := .type "tuple", data := .seq items }) h.objs.size items := ⟨_, Heap.get?_push_size _ rfl, rfl, rfl, _, rfl⟩
abbrev Hp := Addr → Option HO
def upd (H : Hp) (a : Addr) (o : HO) : Hp := fun b => if b = a then some o else H b
theorem zab {H : Hp} {a : Addr} {o : HO} : upd H a o a = some o := by unfold upd; rw [if_pos rfl]
theorem zan {H : Hp} {a b : Addr} {o : HO} (h : b ≠ a) : upd H a o b = H b := by unfold upd; rw [if_neg h]
theorem zky {H : Hp} {a : Addr} {o u : HO} : upd (upd H a o) a u = upd H a u := by
 funext b; unfold upd; split <;> rfl
theorem zed {H : Hp} {a b : Addr} {o u : HO} (h : H a = some o) (h' : H b = some u) (d : o ≠ u) : a ≠ b := by
 intro e; subst e; rw [h] at h'; exact d (Option.some.inj h')
theorem zaz {H : Hp} {a b : Addr} {o : HO} (h : H a = some o) (h' : H b = none) : a ≠ b := by
 intro e; subst e; rw [h] at h'; cases h'
section
variable (P : Program) (w : World)
def ObjOk (H : Hp) (h : Heap) (a : Addr) : HO → Prop
 | .lst xs => xs.length ≤ sizeLine ∧ ∃ (its : List Value) (n : Nat), Vals xs its ∧ h.get? a = some { cls := .type "list", data := .seq its.toArray n }
 | .tup xs => xs.length ≤ sizeLine ∧ ∃ its : List Value, Vals xs its ∧ IsTupP h a its.toArray
 | .dK kvs => kvs.length ≤ sizeLine ∧ (a == sysModules) = false ∧ ∃ vs, KV kvs vs ∧ h.DictOf (zaE P w) a vs
 | .dT kvs => kvs.length ≤ sizeLine ∧ (a == sysModules) = false ∧ ∃ xs : List (List Key × Addr × Value),
  Paired (fun (p : List Key × V) (q : List Key × Addr × Value) => p.1 = q.1 ∧ H q.2.1 = some (.tup (p.1.map kV)) ∧ RelV p.2 q.2.2) kvs xs ∧
  ∃ o es ep, h.get? a = some o ∧ o.ExactDict ∧ o.data = .dict es ep ∧ es.toList = xs.map (entryOfKey (tupleKind (zaE P w))) ∧ (xs.map (·.1)).Nodup
 | .set S n => h.SetOf (intKind P w) a S n
 | .ins C dx fs => H dx = some (.own a) ∧ fs.length ≤ 1000 ∧ dx ≠ a ∧ h.get? a = some (PySem.W.instObj C dx) ∧
  ∃ mA, h.Ns1 dx mA ∧ (∀ f, RelO (fs.lookup f) (mA f)) ∧ PySem.Within mA (fs.map (·.1))
 | .own _ => ∃ o, h.get? a = some o
 | .xd fs => ∃ mA, h.Ns1 a mA ∧ ∀ f, RelO (fs.lookup f) (mA f)
 | .rng lo hi => ∃ t u v, h.get? a = some { cls := .type "range", data := .fields #[.int lo t, .int hi u, .int 1 v] }
 | .frz o u => h.get? a = some o ∧ ObjOk H h a u
 | .tbl ps => h.get? a = some { cls := .none, data := .fields ps }
 | .met f x => h.get? a = some (PySem.W.methodObj (.ref f) (.ref x))
 | .ext φ => φ h ∧ (∃ o, h.get? a = some o) ∧ ∀ h1 h2 : Heap, φ h1 → (∀ o, h1.get? a = some o → h2.get? a = some o) → φ h2
def HOk (H : Hp) (h : Heap) : Prop := ∀ a o, H a = some o → ObjOk P w H h a o
end
section
variable {P : Program} {w : World} {H H' : Hp} {h h' : Heap} {a : Addr} {o : HO}
theorem ObjOk.lt (x : ObjOk P w H h a o) : a < h.objs.size := by
 cases o with
 | lst xs => obtain ⟨_, _, _, _, e⟩ := x; exact Heap.lt_size e
 | tup xs => obtain ⟨_, _, _, p⟩ := x; exact (show IsTupP _ _ _ from p).tup.lt
 | dK kvs => obtain ⟨_, _, _, _, o, _, _, e, _⟩ := x; exact Heap.lt_size e
 | dT kvs => obtain ⟨_, _, _, _, o, _, _, e, _⟩ := x; exact Heap.lt_size e
 | set S n => obtain ⟨o, _, _, _, e, _⟩ := x; exact Heap.lt_size e
 | ins C dx fs => obtain ⟨_, _, _, e, _⟩ := x; exact Heap.lt_size e
 | own y => obtain ⟨_, e⟩ := x; exact Heap.lt_size e
 | xd fs => obtain ⟨_, ⟨_, _, _, e, _⟩, _⟩ := x; exact Heap.lt_size e
 | rng lo hi => obtain ⟨_, _, _, e⟩ := x; exact Heap.lt_size e
 | frz ob u => obtain ⟨e, _⟩ := x; exact Heap.lt_size e
 | tbl ps => exact Heap.lt_size (show h.get? a = some _ from x)
 | met f y => exact Heap.lt_size (show h.get? a = some _ from x)
 | ext φ => obtain ⟨_, ⟨_, e⟩, _⟩ := x; exact Heap.lt_size e
theorem Paired.mapP {α β : Type} {F G : α → β → Prop} : ∀ {l₁ : List α} {l₂ : List β}, Paired F l₁ l₂ → (∀ a b, F a b → G a b) → Paired G l₁ l₂
 | _, _, .nil, _ => .nil
 | _, _, .cons r t, f => .cons (f _ _ r) (Paired.mapP t f)
theorem ObjOk.stay (x : ObjOk P w H h a o) (k : ∀ b u, (b = a ∨ H b = some (.own a)) → h.get? b = some u → h'.get? b = some u)
 (ho : ∀ b, H b = some (.own a) → H' b = some (.own a)) (ht : ∀ b xs, H b = some (.tup xs) → H' b = some (.tup xs)) : ObjOk P w H' h' a o := by
 induction o with
 | lst xs => obtain ⟨z, its, n, r, e⟩ := x; exact ⟨z, its, n, r, k _ _ (.inl rfl) e⟩
 | tup xs => obtain ⟨z, its, r, ob, e, c⟩ := x; exact ⟨z, its, r, ob, k _ _ (.inl rfl) e, c⟩
 | dK kvs => obtain ⟨z, y, vs, r, ob, es, ep, e, c⟩ := x; exact ⟨z, y, vs, r, ob, es, ep, k _ _ (.inl rfl) e, c⟩
 | dT kvs =>
  obtain ⟨z, y, xs, r, ob, es, ep, e, c⟩ := x
  exact ⟨z, y, xs, Paired.mapP r fun p q z => ⟨z.1, ht _ _ z.2.1, z.2.2⟩, ob, es, ep, k _ _ (.inl rfl) e, c⟩
 | set S n => obtain ⟨ob, es, ep, t, e, c⟩ := x; exact ⟨ob, es, ep, t, k _ _ (.inl rfl) e, c⟩
 | ins C dx fs =>
  obtain ⟨d, z, ne, e, mA, ⟨od, es, ep, e2, c⟩, r⟩ := x
  exact ⟨ho _ d, z, ne, k _ _ (.inl rfl) e, mA, ⟨od, es, ep, k _ _ (.inr d) e2, c⟩, r⟩
 | own y => obtain ⟨ob, e⟩ := x; exact ⟨ob, k _ _ (.inl rfl) e⟩
 | xd fs => obtain ⟨mA, ⟨od, es, ep, e, c⟩, r⟩ := x; exact ⟨mA, ⟨od, es, ep, k _ _ (.inl rfl) e, c⟩, r⟩
 | rng lo hi => obtain ⟨t, u, v, e⟩ := x; exact ⟨t, u, v, k _ _ (.inl rfl) e⟩
 | frz ob u ih => obtain ⟨e, q⟩ := x; exact ⟨k _ _ (.inl rfl) e, ih q⟩
 | tbl ps =>
  have e : h.get? a = some { cls := .none, data := .fields ps } := x
  show h'.get? a = some { cls := .none, data := .fields ps }
  exact k a _ (.inl rfl) e
 | met f y =>
  have e : h.get? a = some (PySem.W.methodObj (.ref f) (.ref y)) := x
  show h'.get? a = some (PySem.W.methodObj (.ref f) (.ref y))
  exact k a _ (.inl rfl) e
 | ext φ => obtain ⟨p, ⟨o, e⟩, st⟩ := x; exact ⟨st _ _ p fun o q => k _ _ (.inl rfl) q, ⟨o, k _ _ (.inl rfl) e⟩, st⟩
theorem HOk.lt (x : HOk P w H h) (e : H a = some o) : a < h.objs.size := (x a o e).lt
theorem HOk.fresh (x : HOk P w H h) (e : h.objs.size ≤ a) : H a = none := by
 cases q : H a with
 | none => rfl
 | some u => exact absurd (Nat.lt_of_lt_of_le (x.lt q) e) (Nat.lt_irrefl _)
theorem HOk.kept (x : HOk P w H h) (k : ∀ b u, h.get? b = some u → h'.get? b = some u) : HOk P w H h' := fun a o e =>
 (x a o e).stay (fun b u _ q => k b u q) (fun _ q => q) fun _ _ q => q
theorem HOk.laid (x : HOk P w H h) (k : ∀ b u, h.get? b = some u → h'.get? b = some u) (hp : h.objs.size ≤ a) (new : ObjOk P w (upd H a o) h' a o) : HOk P w (upd H a o) h' := fun b u e => by
 have hn := x.fresh hp
 by_cases hb : b = a
 · subst hb; rw [zab] at e; cases e; exact new
 · rw [zan hb] at e
   exact (x b u e).stay (fun c v _ q => k c v q) (fun c q => by rw [zan (zaz q hn)]; exact q) fun c xs q => by rw [zan (zaz q hn)]; exact q
end
def Rd (H : Hp) (a : Addr) (u : HO) : Prop := H a = some u ∨ ∃ o, H a = some (.frz o u)
theorem Rd.ok {P : Program} {w : World} {H : Hp} {h : Heap} {a : Addr} {u : HO} (r : Rd H a u) (x : HOk P w H h) : ObjOk P w H h a u := by
 rcases r with r | ⟨o, r⟩
 · exact x a u r
 · obtain ⟨_, q⟩ := x a _ r
   exact q
def Mut : Option HO → Prop
 | some (.lst _) => True
 | some (.dK _) => True
 | some (.dT _) => True
 | some (.set _ _) => True
 | some (.ins _ _ _) => True
 | some (.ext _) => True
 | _ => False
section
variable {P : Program} {w : World} {H : Hp} {h h' : Heap} {x e : Addr} {o' : HO}
theorem HOk.write (ok : HOk P w H h) (mu : Mut (H x)) (he : e = x ∨ H e = some (.own x)) (k : ∀ b u, b ≠ e → h.get? b = some u → h'.get? b = some u) (heo : ∃ u, h'.get? e = some u)
 (new : ObjOk P w (upd H x o') h' x o') : HOk P w (upd H x o') h' := fun b u q => by
 have nown : ∀ c y, H c = some (.own y) → c ≠ x := fun c y r z => by subst z; rw [r] at mu; exact mu
 have ntup : ∀ c xs, H c = some (.tup xs) → c ≠ x := fun c xs r z => by subst z; rw [r] at mu; exact mu
 by_cases hb : b = x
 · subst hb; rw [zab] at q; cases q; exact new
 · rw [zan hb] at q
   by_cases hbe : b = e
   · have q' : H b = some (.own x) := by
      rcases he with z | z
      · exact absurd (hbe.trans z) hb
      · rw [hbe]; exact z
     rw [q] at q'; cases q'
     obtain ⟨v, hv⟩ := heo
     exact ⟨v, by rw [hbe]; exact hv⟩
   · refine (ok b u q).stay (fun c v hc r => k c v ?_ r) (fun c r => by rw [zan (nown c b r)]; exact r) fun c xs r => by rw [zan (ntup c xs r)]; exact r
     rcases hc with rfl | hc
     · exact hbe
     · rintro rfl
       rcases he with z | z
       · exact nown c b hc z
       · rw [hc] at z; cases z; exact hb rfl
end
structure Un (fs ex : List Addr) (H H' : Hp) (h h' : Heap) : Prop where
 keep : ∀ b o, h.get? b = some o → H b = none → b ∉ fs → b ∉ ex → h'.get? b = some o
 slot : ∀ b o, h.get? b = some o → H b = none → b ∈ fs → b ∉ ex → ∃ sl, h'.get? b = some { o with slots := sl }
 free : ∀ b o, h.get? b = some o → H b = none → b ∉ ex → H' b = none
 there : ∀ b o, h.get? b = some o → b ∉ ex → ∃ o', h'.get? b = some o'
 tups : ∀ b xs, H b = some (.tup xs) → H' b = some (.tup xs)
 frzs : ∀ b o u, H b = some (.frz o u) → H' b = some (.frz o u)
 tbls : ∀ b ps, H b = some (.tbl ps) → ∃ more, H' b = some (.tbl (ps ++ more))
section
variable {fs fs' ex ex' : List Addr} {H H1 H2 : Hp} {h h1 h2 h' : Heap} {a x e : Addr} {o : HO}
theorem Un.any (u : Un fs ex H H1 h h1) {b : Addr} {ob : Obj} (q : h.get? b = some ob) (n : H b = none) (hx : b ∉ ex) : ∃ sl, h1.get? b = some { ob with slots := sl } := by
 by_cases hb : b ∈ fs
 · exact u.slot b ob q n hb hx
 · exact ⟨ob.slots, u.keep b ob q n hb hx⟩
theorem Un.kept (k : ∀ b u, h.get? b = some u → h'.get? b = some u) : Un fs ex H H h h' :=
 ⟨fun b ob q _ _ _ => k b ob q, fun b ob q _ _ _ => ⟨ob.slots, k b ob q⟩, fun _ _ _ n _ => n, fun b ob q _ => ⟨ob, k b ob q⟩, fun _ _ q => q, fun _ _ _ q => q, fun _ ps q => ⟨#[], by rw [q]; simp⟩⟩
theorem Un.refl : Un fs ex H H h h := Un.kept fun _ _ q => q
theorem Un.laid (k : ∀ b u, h.get? b = some u → h'.get? b = some u) (hp : h.objs.size ≤ a) (hn : H a = none) : Un fs ex H (upd H a o) h h' where
 keep := fun b u q _ _ _ => k b u q
 slot := fun b u q _ _ _ => ⟨u.slots, k b u q⟩
 free := fun b u q n _ => by rw [zan (Nat.ne_of_lt (Nat.lt_of_lt_of_le (Heap.lt_size q) hp))]; exact n
 there := fun b u q _ => ⟨u, k b u q⟩
 tups := fun b xs q => by rw [zan (zaz q hn)]; exact q
 frzs := fun b u xs q => by rw [zan (zaz q hn)]; exact q
 tbls := fun b ps q => ⟨#[], by rw [zan (zaz q hn), q]; simp⟩
theorem Un.write (mu : Mut (H x)) (he : e = x ∨ H e = some (.own x)) (k : ∀ b u, b ≠ e → h.get? b = some u → h'.get? b = some u) (heo : ∃ u, h'.get? e = some u) : Un fs ex H (upd H x o) h h' := by
 have hx : ∀ b, H b = none → b ≠ x := fun b n z => by subst z; rw [n] at mu; exact mu
 have hb : ∀ b, H b = none → b ≠ e := fun b n z => by
  subst z
  rcases he with r | r
  · exact hx b n r
  · rw [n] at r; cases r
 have hm : ∀ b u, H b = some u → ¬ Mut (some u) → b ≠ x := fun b u q nm z => by subst z; rw [q] at mu; exact nm mu
 refine ⟨fun b u q n _ _ => k b u (hb b n) q, fun b u q n _ _ => ⟨u.slots, k b u (hb b n) q⟩, fun b u q n _ => by rw [zan (hx b n)]; exact n, fun b u q _ => ?_,
  fun b xs q => by rw [zan (hm b _ q fun z => z)]; exact q, fun b u xs q => by rw [zan (hm b _ q fun z => z)]; exact q, fun b ps q => ⟨#[], by rw [zan (hm b _ q fun z => z), q]; simp⟩⟩
 by_cases hbe : b = e
 · subst hbe; exact heo
 · exact ⟨u, k b u hbe q⟩
end
def trk (h : Heap) (H : Hp) : List Addr := (List.range h.objs.size).filter fun a => (H a).isSome
def hidT (h : Heap) (H : Hp) : Heap := PySem.W.hideAll h (trk h H)
theorem zi7 (h : Heap) (H : Hp) : (hidT h H).objs.size = h.objs.size := PySem.W.hideAll_size _ _
theorem zj0 {h : Heap} {H : Hp} {b : Addr} {o : Obj} (e : h.get? b = some o) (n : H b = none) : (hidT h H).get? b = some o :=
 PySem.W.hideAll_get _ e fun hm => by
  have q : (H b).isSome = true := (List.mem_filter.mp hm).2
  rw [n] at q; simp at q
theorem zkV {h : Heap} {H : Hp} {b : Addr} {o : Obj} (e : (hidT h H).get? b = some o) : h.get? b = some o ∧ H b = none := by
 have e' : h.get? b = some o := PySem.W.of_hideAll (trk h H) e
 refine ⟨e', ?_⟩
 cases q : H b with
 | none => rfl
 | some x =>
  have hm : b ∈ trk h H := List.mem_filter.mpr ⟨List.mem_range.mpr (Heap.lt_size e'), by simp [q]⟩
  have z : (hidT h H).get? b = none := PySem.W.hideAll_none (trk h H) hm
  rw [z] at e; cases e
def zk5 (g h : Heap) (L : Addr) : List (Addr × Obj) := (List.range h.objs.size).filterMap fun a => if a = L ∨ (g.get? a).isSome = true then none else (h.get? a).map fun o => (a, o)
def rest (g h : Heap) (L d : Addr) : List (Addr × Obj) := (zk5 g h L).filter fun p => decide (p.1 ≠ d)
structure Mod (K : PySem.W.Frag) (mg : Str → Option Value) (base : Heap) : Prop where
 kin : K.In base
 glob : base.Ns mainGlobals mg
 blt : ∃ mb, base.Ns builtinsNs mb ∧ ∀ x : Str, x ≠ "__name__" → mb x = bootBuiltins x
 nolimit : base.NoLimit
structure Cx where
 prog : Program
 w : World
 K : PySem.W.Frag
 mg : Str → Option Value
 base : Heap
 A : Around
 N : List Str
 s₀ : Shared
 H₀ : Hp
 env : Env
 outer : List Env
 stack : List Env
 ex : List Addr
 fn : Str → Bool
 calm : Bool
 pn : List (Addr × Obj)
 xe : Value → Shared → Prop
def frs (l : List Env) : List Addr := l.filterMap (·.frame)
abbrev Cx.fs (X : Cx) : List Addr := frs X.outer
def Vis (sc : Scope) (x : Str) : Prop := sc.names.lookup x = some .local ∨ sc.names.lookup x = some .cell ∨ sc.names.lookup x = some .free
def Loc (sc : Scope) (x : Str) : Prop := sc.names.lookup x = some .local ∨ sc.names.lookup x = some .cell
def Look (env : Env) (h : Heap) (m : Str → Option Value) (x : Str) (u : Value) : Prop :=
 (env.kindOf x = some .local ∧ m x = some u) ∨ ((env.kindOf x = some .cell ∨ env.kindOf x = some .free) ∧ ∃ c, env.cells.lookup x = some c ∧ h.IsCell c (some u))
structure Cx.Ok (X : Cx) : Prop where
 mod : Mod X.K X.mg X.base
 kind : X.env.scope.kind = .function
 glob : X.env.globals = mainGlobals
 blt : X.env.builtins = builtinsNs
 above : X.s₀.heap.objs.size ≤ X.env.locals
 inj : ∀ x y c, X.env.cells.lookup x = some c → X.env.cells.lookup y = some c → x = y
 has : ∀ x, (X.env.kindOf x = some .cell ∨ X.env.kindOf x = some .free) → ∃ c, X.env.cells.lookup x = some c
 cab : ∀ x c, X.fn x = true → X.env.cells.lookup x = some c → X.s₀.heap.objs.size ≤ c
 hd : X.calm = true → X.A.handled = none
 frames : X.A.frames = some X.stack
 stk : X.stack = X.outer ∨ (X.stack = X.env :: X.outer ∧ X.env.frame = some X.env.locals)
 exf : ∀ b ∈ X.ex, b ≠ X.env.locals ∧ ∀ x c, X.env.cells.lookup x = some c → c ≠ b
 bs : ∀ b o, X.base.get? b = some o → X.s₀.heap.get? b = some o ∧ X.H₀ b = none
 bsz : X.base.objs.size ≤ X.s₀.heap.objs.size
 noex : ∀ b o, X.base.get? b = some o → b ∉ X.ex
 exfs : ∀ b ∈ X.ex, b ∉ X.fs
 funs : X.s₀.heap.FunFrames X.base X.outer
 frf : ∀ b ∈ X.fs, X.H₀ b = none
structure Inv (X : Cx) (pins : List (Addr × Obj)) (σ : List (Option V)) (H : Hp) (s : Shared) : Prop where
 ok : X.Ok
 os : s.os = X.s₀.os
 bare : AllBare s.gens
 base : Un X.fs X.ex X.H₀ H X.s₀.heap s.heap
 loc : ∃ m, s.heap.Ns X.env.locals m ∧ ∀ (i : Nat) (x : Str) (v : V), X.N[i]? = some x → σ[i]? = some (some v) → Vis X.env.scope x → ∃ u, RelV v u ∧ Look X.env s.heap m x u
 cell : ∀ x c, X.env.cells.lookup x = some c → ∃ v, s.heap.IsCell c v
 free : H X.env.locals = none
 freeC : ∀ x c, X.env.cells.lookup x = some c → H c = none
 pin : ∀ p ∈ X.pn ++ pins, s.heap.get? p.1 = some p.2 ∧ H p.1 = none ∧ p.1 ≠ X.env.locals ∧ p.1 ∉ X.fs ∧ ∀ v, p.2.data ≠ .cell v
 hok : HOk X.prog X.w H s.heap
 len : σ.length = X.N.length
section
variable {X : Cx} {pins : List (Addr × Obj)} {σ : List (Option V)} {H H' : Hp} {s : Shared} {h' : Heap}
theorem Cx.Ok.nofr (ok : X.Ok) {b : Addr} {o : Obj} (e : X.base.get? b = some o) : b ∉ X.fs := fun hb => by
 have := (ok.funs.mem hb).1
 rw [e] at this; cases this
theorem Inv.bs (I : Inv X pins σ H s) : ∀ b o, X.base.get? b = some o → s.heap.get? b = some o ∧ H b = none := fun b o e =>
 ⟨I.base.keep b o (I.ok.bs b o e).1 (I.ok.bs b o e).2 (I.ok.nofr e) (I.ok.noex b o e), I.base.free b o (I.ok.bs b o e).1 (I.ok.bs b o e).2 (I.ok.noex b o e)⟩
theorem Inv.bk (I : Inv X pins σ H s) : ∀ b o, X.base.get? b = some o → s.heap.get? b = some o := fun b o e => (I.bs b o e).1
theorem Inv.mod (I : Inv X pins σ H s) : Mod X.K X.mg X.base := I.ok.mod
theorem Inv.kIn (I : Inv X pins σ H s) : X.K.In s.heap := I.ok.mod.kin.keeps I.bk
theorem Inv.lt (I : Inv X pins σ H s) : X.env.locals < s.heap.objs.size := let ⟨_, hn, _⟩ := I.loc; hn.lt
theorem Inv.sz (I : Inv X pins σ H s) : X.s₀.heap.objs.size ≤ s.heap.objs.size := Nat.le_trans I.ok.above (Nat.le_of_lt I.lt)
theorem Inv.nofs (I : Inv X pins σ H s) {a : Addr} (h : s.heap.objs.size ≤ a) : a ∉ X.fs := fun hb => by
 obtain ⟨_, o, ho, _⟩ := I.ok.funs.mem hb
 exact absurd (Nat.lt_of_lt_of_le (Heap.lt_size ho) (Nat.le_trans I.sz h)) (Nat.lt_irrefl _)
theorem Inv.cne (I : Inv X pins σ H s) : ∀ x c, X.env.cells.lookup x = some c → c ≠ X.env.locals := fun x c e z => by
 obtain ⟨v, o, ho, hd⟩ := I.cell x c e
 obtain ⟨m, ⟨o', es, ep, ho', hd', _⟩, _⟩ := I.loc
 rw [z, ho'] at ho; cases ho; rw [hd'] at hd; cases hd
theorem Inv.funs (I : Inv X pins σ H s) : s.heap.FunFrames X.base X.outer := by
 have all : ∀ (l : List Env), (∀ b ∈ frs l, b ∈ X.fs) → X.s₀.heap.FunFrames X.base l → s.heap.FunFrames X.base l := by
  intro l
  induction l with
  | nil => intro _ _; trivial
  | cons env r ih =>
   intro hs hl
   obtain ⟨hk, ⟨L, o, hf, hn, ho, hd⟩, hr⟩ := hl
   have hL : L ∈ X.fs := hs L (by unfold frs; rw [List.filterMap_cons, hf]; exact List.mem_cons_self)
   obtain ⟨sl, e⟩ := I.base.slot L o ho (I.ok.frf L hL) hL fun z => I.ok.exfs L z hL
   exact ⟨hk, ⟨L, _, hf, hn, e, hd⟩, ih (fun b hb => hs b (by unfold frs; rw [List.filterMap_cons, hf]; exact List.mem_cons_of_mem _ hb)) hr⟩
 exact all X.outer (fun _ hb => hb) I.ok.funs
theorem Inv.stack (I : Inv X pins σ H s) : s.heap.FunFrames X.base X.stack := by
 rcases I.ok.stk with e | ⟨e, hf⟩
 · rw [e]; exact I.funs
 · rw [e]
   obtain ⟨m, hn, _⟩ := I.loc
   refine .cons (by rw [I.ok.kind]; decide) hf hn ?_ I.funs
   exact Heap.get?_none_of_le (Nat.le_trans I.ok.bsz I.ok.above)
theorem Inv.stkSub (I : Inv X pins σ H s) : ∀ b ∈ frs X.stack, b ∈ X.env.locals :: X.fs := fun b hb => by
 rcases I.ok.stk with e | ⟨e, hf⟩
 · rw [e] at hb; exact List.mem_cons_of_mem _ hb
 · rw [e] at hb
   unfold frs at hb
   rw [List.filterMap_cons, hf] at hb
   exact hb
theorem Inv.stkFree (I : Inv X pins σ H s) : ∀ b ∈ frs X.stack, H b = none := fun b hb => by
 rcases List.mem_cons.mp (I.stkSub b hb) with e | hb
 · rw [e]; exact I.free
 · obtain ⟨_, o, ho, _⟩ := I.ok.funs.mem hb
   exact I.base.free b o ho (I.ok.frf b hb) fun z => I.ok.exfs b z hb
theorem Inv.step {g' : Array GenState} {t' : Nat} {d' : Drawn} {ch : List Addr} (I : Inv X pins σ H s)
 (hch : ∀ b ∈ ch, (b ∈ X.ex ∨ X.s₀.heap.objs.size ≤ b) ∧ b ≠ X.env.locals ∧ (∀ x c, X.env.cells.lookup x = some c → c ≠ b) ∧ ∀ p ∈ X.pn ++ pins, p.1 ≠ b)
 (keep : ∀ b o, b ≠ X.env.locals → b ∉ X.fs → b ∉ ch → s.heap.get? b = some o → H b = none → h'.get? b = some o)
 (slot : ∀ b o, b ≠ X.env.locals → b ∈ X.fs → b ∉ ch → s.heap.get? b = some o → H b = none → ∃ sl, h'.get? b = some { o with slots := sl }) (free : ∀ b o, b ∉ ch → s.heap.get? b = some o → H b = none → H' b = none)
 (there : ∀ b o, b ∉ ch → s.heap.get? b = some o → ∃ o', h'.get? b = some o')
 (tups : ∀ b xs, H b = some (.tup xs) → H' b = some (.tup xs)) (frzs : ∀ b o u, H b = some (.frz o u) → H' b = some (.frz o u)) (tbls : ∀ b ps, H b = some (.tbl ps) → ∃ more, H' b = some (.tbl (ps ++ more)))
 (ns : ∀ m, s.heap.Ns X.env.locals m → h'.Ns X.env.locals m) (hok : HOk X.prog X.w H' h') (hg : AllBare g') :
 Inv X pins σ H' { s with heap := h', gens := g', drawn := d', toks := t' } := by
 have neL : ∀ b o, X.s₀.heap.get? b = some o → b ≠ X.env.locals := fun b o e => Nat.ne_of_lt (Nat.lt_of_lt_of_le (Heap.lt_size e) I.ok.above)
 have neC : ∀ b o, X.s₀.heap.get? b = some o → b ∉ X.ex → b ∉ ch := fun b o e hx hb => by
  rcases (hch b hb).1 with z | z
  · exact hx z
  · exact absurd (Nat.lt_of_lt_of_le (Heap.lt_size e) z) (Nat.lt_irrefl _)
 have cellK : ∀ x c, X.env.cells.lookup x = some c → ∀ v, s.heap.IsCell c v → h'.IsCell c v := fun x c e v ⟨o, ho, hd⟩ => by
  have nch : c ∉ ch := fun z => (hch c z).2.2.1 x c e rfl
  by_cases hc : c ∈ X.fs
  · obtain ⟨sl, q⟩ := slot c o (I.cne x c e) hc nch ho (I.freeC x c e)
    exact ⟨_, q, hd⟩
  · exact ⟨o, keep c o (I.cne x c e) hc nch ho (I.freeC x c e), hd⟩
 refine ⟨I.ok, I.os, hg, ⟨fun b o e n hb hx => ?_, fun b o e n hb hx => ?_, fun b o e n hx => ?_, fun b o e hx => ?_, fun b xs e => tups b xs (I.base.tups b xs e), fun b o xs e => frzs b o xs (I.base.frzs b o xs e), fun b ps e => ?_⟩, ?_, fun x c e => ?_, ?_, fun x c e => ?_, fun p hp => ?_, hok, I.len⟩
 · exact keep b o (neL b o e) hb (neC b o e hx) (I.base.keep b o e n hb hx) (I.base.free b o e n hx)
 · obtain ⟨sl, e1⟩ := I.base.slot b o e n hb hx
   obtain ⟨sl', e2⟩ := slot b _ (neL b o e) hb (neC b o e hx) e1 (I.base.free b o e n hx)
   exact ⟨sl', e2⟩
 · obtain ⟨o', e1⟩ := I.base.there b o e hx
   exact free b o' (neC b o e hx) e1 (I.base.free b o e n hx)
 · obtain ⟨o', e1⟩ := I.base.there b o e hx
   exact there b o' (neC b o e hx) e1
 · obtain ⟨m1, e1⟩ := I.base.tbls b ps e
   obtain ⟨m2, e2⟩ := tbls b _ e1
   exact ⟨m1 ++ m2, by rw [e2, Array.append_assoc]⟩
 · obtain ⟨m, hn, hl⟩ := I.loc
   refine ⟨m, ns m hn, fun i x v e1 e2 e3 => ?_⟩
   obtain ⟨u, r, l⟩ := hl i x v e1 e2 e3
   refine ⟨u, r, ?_⟩
   rcases l with l | ⟨k, c, e, z⟩
   · exact .inl l
   · exact .inr ⟨k, c, e, cellK x c e _ z⟩
 · obtain ⟨v, z⟩ := I.cell x c e
   exact ⟨v, cellK x c e v z⟩
 · obtain ⟨m, ⟨o, _, _, ho, _⟩, _⟩ := I.loc
   exact free _ o (fun z => (hch _ z).2.1 rfl) ho I.free
 · obtain ⟨v, o, ho, hd⟩ := I.cell x c e
   exact free c o (fun z => (hch c z).2.2.1 x c e rfl) ho (I.freeC x c e)
 · obtain ⟨e, n, ne, nf, d⟩ := I.pin p hp
   have nch : p.1 ∉ ch := fun z => (hch p.1 z).2.2.2 p hp rfl
   exact ⟨keep p.1 p.2 ne nf nch e n, free p.1 p.2 nch e n, ne, nf, d⟩
theorem Inv.un {t' : Nat} (I : Inv X pins σ H s) (u : Un X.fs [] H H' s.heap h') (hok : HOk X.prog X.w H' h') : Inv X pins σ H' { s with heap := h', toks := t' } := by
 obtain ⟨m, ⟨o, es, ep, ho, r⟩, _⟩ := id I.loc
 obtain ⟨sl, hL⟩ := u.any ho I.free (by simp)
 exact I.step (g' := s.gens) (d' := s.drawn) (ch := []) (fun _ z => nomatch z) (fun b o _ hb _ e n => u.keep b o e n hb (by simp)) (fun b o _ hb _ e n => u.slot b o e n hb (by simp)) (fun b o _ e n => u.free b o e n (by simp)) (fun b o _ e => u.there b o e (by simp)) u.tups u.frzs u.tbls (fun m' hm => by
  obtain ⟨o', es', ep', ho', r'⟩ := hm
  rw [ho] at ho'; cases ho'
  exact ⟨_, es', ep', hL, r'⟩) hok I.bare
theorem Inv.call {g' : Array GenState} {t' : Nat} {d' : Drawn} {ch : List Addr} (I : Inv X pins σ H s) (u : Un (frs X.stack) ch H H' s.heap h') (hok : HOk X.prog X.w H' h') (hg : AllBare g')
 (hch : ∀ b ∈ ch, (b ∈ X.ex ∨ X.s₀.heap.objs.size ≤ b) ∧ b ≠ X.env.locals ∧ (∀ x c, X.env.cells.lookup x = some c → c ≠ b) ∧ ∀ p ∈ X.pn ++ pins, p.1 ≠ b) :
 Inv X pins σ H' { s with heap := h', gens := g', drawn := d', toks := t' } := by
 obtain ⟨m, ⟨o, es, ep, ho, r⟩, _⟩ := id I.loc
 obtain ⟨sl, hL⟩ := u.any ho I.free fun z => (hch _ z).2.1 rfl
 exact I.step (ch := ch) hch (fun b o hL hb hc e n => u.keep b o e n (fun z => (List.mem_cons.mp (I.stkSub b z)).elim hL hb) hc) (fun b o _ _ hc e n => u.any e n hc) (fun b o hc e n => u.free b o e n hc) (fun b o hc e => u.there b o e hc) u.tups u.frzs u.tbls (fun m' hm => by
  obtain ⟨o', es', ep', ho', r'⟩ := hm
  rw [ho] at ho'; cases ho'
  exact ⟨_, es', ep', hL, r'⟩) hok hg
theorem Inv.turned {t' : Nat} {it : Addr} (I : Inv X pins σ H s) (k : ∀ b o, b ≠ it → s.heap.get? b = some o → h'.get? b = some o) (hn : H it = none) (hL : it ≠ X.env.locals)
 (h1 : it ∈ X.ex ∨ X.s₀.heap.objs.size ≤ it) (h2 : ∀ x c, X.env.cells.lookup x = some c → c ≠ it) (h3 : ∀ p ∈ X.pn ++ pins, p.1 ≠ it) : Inv X pins σ H { s with heap := h', toks := t' } := by
 have nit : ∀ b u, H b = some u → b ≠ it := fun b u e z => by rw [z, hn] at e; cases e
 refine I.step (g' := s.gens) (d' := s.drawn) (ch := [it]) (fun b hb => ?_) (fun b o _ _ hc e _ => k b o (fun z => hc (by simp [z])) e) (fun b o _ _ hc e _ => ⟨o.slots, k b o (fun z => hc (by simp [z])) e⟩) (fun _ _ _ _ n => n)
  (fun b o hc e => ⟨o, k b o (fun z => hc (by simp [z])) e⟩) (fun _ _ e => e) (fun _ _ _ e => e) (fun b ps e => ⟨#[], by rw [e]; simp⟩) (fun m hm => ?_) (fun b u e => ?_) I.bare
 · have e : b = it := by simpa using hb
   subst e
   exact ⟨h1, hL, h2, h3⟩
 · obtain ⟨o, es, ep, ho, r⟩ := hm
   exact ⟨o, es, ep, k _ o (Ne.symm hL) ho, r⟩
 · refine (I.hok b u e).stay (fun c v hc q => k c v ?_ q) (fun _ q => q) fun _ _ q => q
   rcases hc with z | z
   · rw [z]; exact nit b u e
   · exact nit c _ z
theorem Inv.tok (I : Inv X pins σ H s) (t : Nat) : Inv X pins σ H { s with toks := t } := I.un (h' := s.heap) (t' := t) Un.refl I.hok
theorem Inv.kept {t' : Nat} (I : Inv X pins σ H s) (k : ∀ b u, s.heap.get? b = some u → h'.get? b = some u) : Inv X pins σ H { s with heap := h', toks := t' } := I.un (Un.kept k) (I.hok.kept k)
theorem Inv.laid {a : Addr} {o : HO} {t' : Nat} (I : Inv X pins σ H s) (k : ∀ b u, s.heap.get? b = some u → h'.get? b = some u) (hp : s.heap.objs.size ≤ a) (new : ObjOk X.prog X.w (upd H a o) h' a o) :
 Inv X pins σ (upd H a o) { s with heap := h', toks := t' } := I.un (Un.laid k hp (I.hok.fresh hp)) (I.hok.laid k hp new)
theorem Inv.write {x e : Addr} {o : HO} {t' : Nat} (I : Inv X pins σ H s) (mu : Mut (H x)) (he : e = x ∨ H e = some (.own x)) (k : ∀ b u, b ≠ e → s.heap.get? b = some u → h'.get? b = some u) (heo : ∃ u, h'.get? e = some u)
 (new : ObjOk X.prog X.w (upd H x o) h' x o) : Inv X pins σ (upd H x o) { s with heap := h', toks := t' } := I.un (Un.write mu he k heo) (I.hok.write mu he k heo new)
theorem Inv.pins_of {pins' : List (Addr × Obj)} (I : Inv X pins σ H s) (h : ∀ p ∈ pins', s.heap.get? p.1 = some p.2 ∧ H p.1 = none ∧ p.1 ≠ X.env.locals ∧ p.1 ∉ X.fs ∧ ∀ v, p.2.data ≠ .cell v) : Inv X pins' σ H s :=
 ⟨I.ok, I.os, I.bare, I.base, I.loc, I.cell, I.free, I.freeC, fun p hp => (List.mem_append.mp hp).elim (fun z => I.pin p (List.mem_append_left _ z)) (h p), I.hok, I.len⟩
theorem zhk {N : List Str} (hN : N.Nodup) {i j : Nat} {x : Str} (a : N[i]? = some x) (b : N[j]? = some x) : i = j := by
 obtain ⟨h1, e1⟩ := List.getElem?_eq_some_iff.mp a
 obtain ⟨h2, e2⟩ := List.getElem?_eq_some_iff.mp b
 exact (List.getElem_inj hN).mp (e1.trans e2.symm)
theorem zdJ {M : Model} {A : Around} {E : Value → Shared → Prop} {i : Nat} {x : Str} {v : V} {u : Value} {Q : Unit → Shared → Prop} (I : Inv X pins σ H s) (hN : X.N.Nodup) (hi : X.N[i]? = some x) (hx : Loc X.env.scope x) (r : RelV v u)
 (h : ∀ s', Inv X pins (σ.set i (some v)) H s' → (∃ a, Heap.SameBut a s.heap s'.heap ∧ (a = X.env.locals ∨ X.env.cells.lookup x = some a)) → Q () s') (hf : X.fn x = true ∨ X.env.scope.names.lookup x = some .local := by first | exact .inl rfl | exact .inr rfl | assumption) : wpAny M A (storeName X.env x u) Q E s := by
 obtain ⟨m, hn, hl⟩ := id I.loc
 have hcls : (X.env.scope.kind == .class || (X.env.scope.kind == .module && X.env.locals != X.env.globals)) = false := by rw [I.ok.kind]; rfl
 have hiσ : i < σ.length := by rw [I.len]; exact (List.getElem?_eq_some_iff.mp hi).1
 have cne := I.cne
 have tracked : ∀ {a : Addr} {h' : Heap}, (∃ o, s.heap.get? a = some o ∧ H a = none) → Heap.SameBut a s.heap h' → HOk X.prog X.w H h' := fun {a h'} ha hs b ob e => by
  obtain ⟨_, _, hfree⟩ := ha
  refine (I.hok b ob e).stay (fun c w' hc q => (hs.2 c ?_).trans q) (fun _ q => q) fun _ _ q => q
  rintro rfl
  rcases hc with rfl | hc
  · rw [hfree] at e; cases e
  · rw [hfree] at hc; cases hc
 rcases hx with hk | hk
 · refine wpAny_storeName_local hk hn (fun h' hn' hs => ?_) hcls
   obtain ⟨oL, _, _, hoL, _⟩ := id hn
   refine h _ ⟨I.ok, I.os, I.bare, ⟨fun b o e n hb hx => ?_, fun b o e n hb hx => ?_, I.base.free, fun b o e hx => ?_, I.base.tups, I.base.frzs, I.base.tbls⟩, ⟨_, hn', fun j y v' e1 e2 e3 => ?_⟩, fun y c e => ?_, I.free, I.freeC, fun p hp => ?_, tracked ⟨oL, hoL, I.free⟩ hs, by simpa using I.len⟩ ⟨_, hs, .inl rfl⟩
   · exact (hs.2 b (Nat.ne_of_lt (Nat.lt_of_lt_of_le (Heap.lt_size e) I.ok.above))).trans (I.base.keep b o e n hb hx)
   · obtain ⟨sl, e1⟩ := I.base.slot b o e n hb hx
     exact ⟨sl, (hs.2 b (Nat.ne_of_lt (Nat.lt_of_lt_of_le (Heap.lt_size e) I.ok.above))).trans e1⟩
   · obtain ⟨o', e1⟩ := I.base.there b o e hx
     exact ⟨o', (hs.2 b (Nat.ne_of_lt (Nat.lt_of_lt_of_le (Heap.lt_size e) I.ok.above))).trans e1⟩
   · by_cases hj : j = i
     · subst hj
       rw [hi] at e1; cases e1
       rw [List.getElem?_set_self hiσ] at e2
       cases e2
       exact ⟨u, r, .inl ⟨hk, by simp⟩⟩
     · rw [List.getElem?_set_ne (Ne.symm hj)] at e2
       obtain ⟨u', r', q⟩ := hl j y v' e1 e2 e3
       refine ⟨u', r', ?_⟩
       rcases q with ⟨k, e⟩ | ⟨k, c, e, z⟩
       · refine .inl ⟨k, ?_⟩
         have : y ≠ x := fun e => hj (zhk hN e1 (e ▸ hi))
         simp [this, e]
       · exact .inr ⟨k, c, e, z.sameBut hs (cne y c e)⟩
   · obtain ⟨w', z⟩ := I.cell y c e
     exact ⟨w', z.sameBut hs (cne y c e)⟩
   · obtain ⟨e, n, ne, nf, d⟩ := I.pin p hp
     exact ⟨(hs.2 p.1 ne).trans e, n, ne, nf, d⟩
 · have hfn : X.fn x = true := by
    rcases hf with z | z
    · exact z
    · rw [z] at hk; cases hk
   obtain ⟨c, hc⟩ := I.ok.has x (.inl hk)
   obtain ⟨w', z⟩ := I.cell x c hc
   refine wpAny_storeName_cell I.ok.kind hk hc z (fun h' hc' hs => ?_)
   obtain ⟨oc, hoc, hocd⟩ := id z
   refine h { s with heap := h' } ⟨I.ok, I.os, I.bare, ⟨fun b o e n hb hx => ?_, fun b o e n hb hx => ?_, I.base.free, fun b o e hx => ?_, I.base.tups, I.base.frzs, I.base.tbls⟩, ⟨m, hn.sameBut hs (Ne.symm (cne x c hc)), fun j y v' e1 e2 e3 => ?_⟩, fun y c' e => ?_, I.free, I.freeC, fun p hp => ?_, tracked ⟨oc, hoc, I.freeC x c hc⟩ hs, by simpa using I.len⟩ ⟨c, hs, .inr hc⟩
   · exact (hs.2 b (Nat.ne_of_lt (Nat.lt_of_lt_of_le (Heap.lt_size e) (I.ok.cab x c hfn hc)))).trans (I.base.keep b o e n hb hx)
   · obtain ⟨sl, e1⟩ := I.base.slot b o e n hb hx
     exact ⟨sl, (hs.2 b (Nat.ne_of_lt (Nat.lt_of_lt_of_le (Heap.lt_size e) (I.ok.cab x c hfn hc)))).trans e1⟩
   · obtain ⟨o', e1⟩ := I.base.there b o e hx
     exact ⟨o', (hs.2 b (Nat.ne_of_lt (Nat.lt_of_lt_of_le (Heap.lt_size e) (I.ok.cab x c hfn hc)))).trans e1⟩
   · by_cases hj : j = i
     · subst hj
       rw [hi] at e1; cases e1
       rw [List.getElem?_set_self hiσ] at e2
       cases e2
       exact ⟨u, r, .inr ⟨.inl hk, c, hc, hc'⟩⟩
     · rw [List.getElem?_set_ne (Ne.symm hj)] at e2
       obtain ⟨u', r', q⟩ := hl j y v' e1 e2 e3
       refine ⟨u', r', ?_⟩
       rcases q with q | ⟨k, c', e, z'⟩
       · exact .inl q
       · refine .inr ⟨k, c', e, z'.sameBut hs ?_⟩
         rintro rfl
         exact hj (zhk hN e1 (I.ok.inj _ _ _ e hc ▸ hi))
   · by_cases hcc : c' = c
     · subst hcc; exact ⟨_, hc'⟩
     · obtain ⟨w2, z2⟩ := I.cell y c' e
       exact ⟨w2, z2.sameBut hs hcc⟩
   · obtain ⟨e, n, ne, nf, d⟩ := I.pin p hp
     refine ⟨(hs.2 p.1 ?_).trans e, n, ne, nf, d⟩
     intro q
     rw [q, hoc] at e
     have q' : oc = p.2 := Option.some.inj e
     exact d w' (by rw [← q']; exact hocd)
theorem zha {M : Model} {A : Around} {E : Value → Shared → Prop} {i : Nat} {x : Str} {v : V} {u : Value} {Q : Unit → Shared → Prop} (I : Inv X pins σ H s) (hN : X.N.Nodup) (hi : X.N[i]? = some x) (hx : Loc X.env.scope x) (r : RelV v u)
 (h : ∀ s', Inv X pins (σ.set i (some v)) H s' → Q () s') (hf : X.fn x = true ∨ X.env.scope.names.lookup x = some .local := by first | exact .inl rfl | exact .inr rfl | assumption) : wpAny M A (storeName X.env x u) Q E s :=
 zdJ I hN hi hx r (fun s' I' _ => h s' I') hf
theorem Inv.call' {s' : Shared} {ch : List Addr} (I : Inv X pins σ H s) (ho : s'.os = s.os) (u : Un (frs X.stack) ch H H' s.heap s'.heap) (hok : HOk X.prog X.w H' s'.heap) (hg : AllBare s'.gens)
 (hch : ∀ b ∈ ch, (b ∈ X.ex ∨ X.s₀.heap.objs.size ≤ b) ∧ b ≠ X.env.locals ∧ (∀ x c, X.env.cells.lookup x = some c → c ≠ b) ∧ ∀ p ∈ X.pn ++ pins, p.1 ≠ b) : Inv X pins σ H' s' := by
 obtain ⟨h', g', d', t', o'⟩ := s'
 have e : o' = s.os := ho
 subst e
 exact I.call (g' := g') (t' := t') (d' := d') u hok hg hch
end
abbrev XK := Value → Option Addr → Hp → Prop
abbrev St := List (Option V)
abbrev VK := V → Hp → Prop
abbrev TE := St → Hp → VK → Prop
abbrev TT := St → Hp → (Bool → Hp → Prop) → Prop
abbrev TA := St → Hp → (List V → Hp → Prop) → Prop
structure Ends where
 nx : St → Hp → Prop
 rt : VK
 bk : St → Hp → Prop := fun _ _ => False
 ct : St → Hp → Prop := fun _ _ => False
abbrev TS := Ends → St → Hp → Prop
def EP (X : Cx) (pins : List (Addr × Obj)) (σ : St) (Q : VK) (u : Value) (s' : Shared) : Prop := ∃ v H', Inv X pins σ H' s' ∧ RelV v u ∧ Q v H'
def TP (X : Cx) (pins : List (Addr × Obj)) (σ : St) (Q : Bool → Hp → Prop) (b : Bool) (s' : Shared) : Prop := ∃ H', Inv X pins σ H' s' ∧ Q b H'
def AP (X : Cx) (pins : List (Addr × Obj)) (σ : St) (Q : List V → Hp → Prop) (us : List Value) (s' : Shared) : Prop := ∃ vs H', Inv X pins σ H' s' ∧ Vals vs us ∧ Q vs H'
def SP (X : Cx) (pins : List (Addr × Obj)) (D : Ends) (f : Flow) (s' : Shared) : Prop :=
 match f with
 | .next => ∃ σ' H', Inv X pins σ' H' s' ∧ D.nx σ' H'
 | .brk => ∃ σ' H', Inv X pins σ' H' s' ∧ D.bk σ' H'
 | .cont => ∃ σ' H', Inv X pins σ' H' s' ∧ D.ct σ' H'
 | .ret u => ∃ v σ' H', Inv X pins σ' H' s' ∧ RelV v u ∧ D.rt v H'
def PE (X : Cx) (e : Expr) (t : TE) : Prop :=
 ∀ (pins : List (Addr × Obj)) (s : Shared) (σ : St) (H : Hp) (Q : VK), Inv X pins σ H s → t σ H Q → wpAny (model X.prog X.w) X.A (eval e X.env) (EP X pins σ Q) X.xe s
def PT (X : Cx) (e : Expr) (t : TT) : Prop :=
 ∀ (pins : List (Addr × Obj)) (s : Shared) (σ : St) (H : Hp) (Q : Bool → Hp → Prop), Inv X pins σ H s → t σ H Q → wpAny (model X.prog X.w) X.A (isTrue e X.env (eval e X.env)) (TP X pins σ Q) X.xe s
def PW (X : Cx) (e : Expr) (t : TT) : Prop :=
 ∀ (whole : Sem Value) (pins : List (Addr × Obj)) (s : Shared) (σ : St) (H : Hp) (Q : Bool → Hp → Prop), Inv X pins σ H s → t σ H Q → wpAny (model X.prog X.w) X.A (isTrue e X.env whole) (TP X pins σ Q) X.xe s
theorem PW.pt {X : Cx} {e : Expr} {t : TT} (h : PW X e t) : PT X e t := h _
def PA (X : Cx) (es : List Expr) (t : TA) : Prop :=
 ∀ (pos : Pos) (pins : List (Addr × Obj)) (s : Shared) (σ : St) (H : Hp) (Q : List V → Hp → Prop), Inv X pins σ H s → t σ H Q → wpAny (model X.prog X.w) X.A (spliced (backTo pos (starEach es X.env))) (AP X pins σ Q) X.xe s
def PS (X : Cx) (st : Stmt) (t : TS) : Prop :=
 ∀ (pins : List (Addr × Obj)) (s : Shared) (σ : St) (H : Hp) (D : Ends), Inv X pins σ H s → t D σ H → wpAny (model X.prog X.w) X.A (exec st X.env) (SP X pins D) X.xe s
def PSs (X : Cx) (st : List Stmt) (t : TS) : Prop :=
 ∀ (pins : List (Addr × Obj)) (s : Shared) (σ : St) (H : Hp) (D : Ends), Inv X pins σ H s → t D σ H → wpAny (model X.prog X.w) X.A (execs st X.env) (SP X pins D) X.xe s
theorem thn {α : Type} {t : Sem α} {Q Q' : α → Shared → Prop} {M : Model} {A : Around} {E : Value → Shared → Prop} {s : Shared} (h : wpAny M A t Q E s) (hQ : ∀ a s, Q a s → Q' a s) : wpAny M A t Q' E s := wpAny_mono h hQ fun _ _ x => x
section
variable {X : Cx}
def tVar (i : Nat) : TE := fun σ H Q => ∃ v, σ[i]? = some (some v) ∧ Q v H
def tC (v : V) : TE := fun _ H Q => Q v H
theorem zlr {i : Nat} {x : Str} {pos : Pos} (hN : X.N[i]? = some x) (hv : Vis X.env.scope x) (hd : (x == ("__debug__" : Str)) = false := by decide) (hcd : (x == ("__classdict__" : Str)) = false := by decide) : PE X (.Name x pos) (tVar i) := by
 intro pins s σ H Q I h
 obtain ⟨v, e, h⟩ := h
 obtain ⟨m, hn, hl⟩ := I.loc
 obtain ⟨u, r, l⟩ := hl i x v hN e hv
 have fin : EP X pins σ Q u s := ⟨v, H, I, r, h⟩
 rcases l with ⟨hk, hm⟩ | ⟨hk, c, hc, hcell⟩
 · exact wpAny_Name (wpAny_loadName_local I.ok.kind hk hn hm fin) hd
 · rcases hk with hk | hk
   · exact wpAny_Name (wpAny_loadName_cell I.ok.kind hk hc hcell fin) hd
   · exact wpAny_Name (wpAny_loadName_free I.ok.kind hk hc hcell fin hcd) hd
theorem zaf {i j pos} : PE X (.Constant (.int i) j pos) (tC (.int i)) := fun _ _ _ H _ I h => wpAny_Constant_int ⟨.int i, H, I.tok _, ⟨_, rfl⟩, h⟩
theorem zcF {b j pos} : PE X (.Constant (.bool b) j pos) (tC (.bl b)) := fun _ _ _ H _ I h => Constant_bool ⟨.bl b, H, I, rfl, h⟩
theorem zcm {j pos} : PE X (.Constant .none j pos) (tC .non) := fun _ _ _ H _ I h => Constant_none ⟨.non, H, I, rfl, h⟩
theorem zdR {x j pos} : PE X (.Constant (.str x) j pos) (tC (.str x)) := fun _ _ _ H _ I h => Calls.Constant_str ⟨.str x, H, I.tok _, ⟨_, rfl⟩, h⟩
def Gl (X : Cx) (x : Str) : Prop := X.env.kindOf x = some .globalImplicit
theorem ziN {E : Value → Shared → Prop} {pins : List (Addr × Obj)} {s : Shared} {σ : St} {H : Hp} {x : Str} {u : Value} {pos : Pos} {Q : Value → Shared → Prop} (I : Inv X pins σ H s) (hg : Gl X x) (hm : X.mg x = some u) (h : Q u s)
 (hd : (x == ("__debug__" : Str)) = false := by decide) : wpAny (model X.prog X.w) X.A (eval (.Name x pos) X.env) Q E s :=
 Calls.Name_function_global I.ok.kind hg (Calls.loadGlobal_global (by rw [I.ok.glob]; exact I.mod.glob.keeps I.bk) hm h) hd
theorem zc6 {E : Value → Shared → Prop} {pins : List (Addr × Obj)} {s : Shared} {σ : St} {H : Hp} {x : Str} {u : Value} {pos : Pos} {Q : Value → Shared → Prop} (I : Inv X pins σ H s) (hg : Gl X x) (hm : X.mg x = none) (hv : bootBuiltins x = some u) (h : Q u s)
 (hn : x ≠ "__name__" := by decide) (hd : (x == ("__debug__" : Str)) = false := by decide) : wpAny (model X.prog X.w) X.A (eval (.Name x pos) X.env) Q E s := by
 obtain ⟨mb, h1, h2⟩ := I.mod.blt
 exact Calls.Name_function_global I.ok.kind hg (Calls.loadGlobal_builtin (by rw [I.ok.glob]; exact I.mod.glob.keeps I.bk) hm (by rw [I.ok.blt]; exact h1.keeps I.bk) ((h2 x hn).trans hv) h) hd
theorem zgw {x : Str} {v : V} {u : Value} {pos : Pos} (hg : Gl X x) (hm : X.mg x = some u) (r : RelV v u) (hd : (x == ("__debug__" : Str)) = false := by decide) : PE X (.Name x pos) (tC v) :=
 fun _ _ _ H _ I h => ziN I hg hm ⟨v, H, I, r, h⟩ hd
theorem zaD {x : Str} {v : V} {u : Value} {pos : Pos} (hg : Gl X x) (hm : X.mg x = none) (hv : bootBuiltins x = some u) (r : RelV v u) (hn : x ≠ "__name__" := by decide) (hd : (x == ("__debug__" : Str)) = false := by decide) : PE X (.Name x pos) (tC v) :=
 fun _ _ _ H _ I h => zc6 I hg hm hv ⟨v, H, I, r, h⟩ hn hd
variable {a b : Expr} {ta tb : TE} {pos : Pos}
def PC (X : Cx) (op : CmpOp) (a b : Expr) (t : TE) : Prop :=
 ∀ (pins : List (Addr × Obj)) (s : Shared) (σ : St) (H : Hp) (Q : VK), Inv X pins σ H s → t σ H Q →
  wpAny (model X.prog X.w) X.A (eval a X.env) (fun v s₁ => wpAny (model X.prog X.w) X.A (eval b X.env) (fun u s₂ => wpAny (model X.prog X.w) X.A (compareOp op v u) (EP X pins σ Q) X.xe s₂) X.xe s₁) X.xe s
theorem zhl (b : Expr) {op : CmpOp} (h : op ≠ .In) (h2 : op ≠ .NotIn) : behindInMarks op b = false := by
 have e1 : (op == CmpOp.In) = false := by cases op <;> first | rfl | exact absurd rfl h
 have e2 : (op == CmpOp.NotIn) = false := by cases op <;> first | rfl | exact absurd rfl h2
 cases b <;> simp [behindInMarks, e1, e2]
def tIsN (ta : TE) : TE := fun σ H Q => ta σ H fun x H1 => Q (.bl (decide (x = .non))) H1
def zlV (ta : TE) : TE := fun σ H Q => ta σ H fun x H1 => Q (.bl (!decide (x = .non))) H1
theorem RelV.none_iff {x : V} {v : Value} (r : RelV x v) : (v == Value.none) = decide (x = .non) := by
 cases x with
 | non => cases r; rfl
 | bl _ => cases r; rfl
 | int _ => obtain ⟨t, rfl⟩ := r; rfl
 | str _ => obtain ⟨t, rfl⟩ := r; rfl
 | byt _ => obtain ⟨t, rfl⟩ := r; rfl
 | flt _ => obtain ⟨t, rfl⟩ := r; rfl
 | ref _ => cases r; rfl
 | ty _ => cases r; rfl
theorem zcH {j pos'} (ha : PE X a ta) : PC X .Is a (.Constant .none j pos') (tIsN ta) := by
 intro pins s σ H Q I h
 refine thn (ha pins s σ H _ I h) fun v s1 ⟨x, H1, I1, r1, q1⟩ => ?_
 exact Constant_none (is_none_gen ⟨.bl _, H1, I1, by rw [r1.none_iff]; rfl, q1⟩)
theorem zcn {j pos'} (ha : PE X a ta) : PC X .IsNot a (.Constant .none j pos') (zlV ta) := by
 intro pins s σ H Q I h
 refine thn (ha pins s σ H _ I h) fun v s1 ⟨x, H1, I1, r1, q1⟩ => ?_
 exact Constant_none (isnot_none_gen ⟨.bl _, H1, I1, by rw [r1.none_iff]; rfl, q1⟩)
def tB (t : TE) : TT := fun σ H Q => t σ H fun x H1 => ∃ c, x = .bl c ∧ Q c H1
theorem zfx {op : CmpOp} {t : TE} (h : PC X op a b t) (h1 : behindInMarks op b = false := by first | exact zhl _ (by decide) (by decide) | rfl) : PE X (.Compare a [op] [b] pos) t := fun pins s σ H Q I hw => wpAny_Compare1 (h pins s σ H Q I hw) h1
theorem zbI {op : CmpOp} {t : TE} (h : PC X op a b t) (h1 : behindInMarks op b = false := by first | exact zhl _ (by decide) (by decide) | rfl) : PT X (.Compare a [op] [b] pos) (tB t) := by
 intro pins s σ H Q I hw
 refine wpAny_isTrue_Compare1 (thn (h pins s σ H _ I hw) fun v s1 h1 => thn h1 fun u s2 h2 => thn h2 fun c s3 ⟨x, H1, I1, r1, q1⟩ => ?_) h1
 obtain ⟨d, rfl, q⟩ := q1
 cases r1
 exact wpAny_truthy_bool ⟨H1, I1, q⟩
theorem zbb {e : Expr} {t : TE} (h : PE X e t) (he : ∀ whole, isTrue e X.env whole = (do let v ← whole; standAt e.pos; holding [v] (truthy v)) := by intro _; rfl) : PT X e (tB t) := by
 intro pins s σ H Q I hw
 refine isTrue_plain (thn (h pins s σ H _ I hw) fun v s1 ⟨x, H1, I1, r1, q1⟩ => ?_) (he _)
 obtain ⟨d, rfl, q⟩ := q1
 cases r1
 exact wpAny_truthy_bool ⟨H1, I1, q⟩
variable {tA tB' : TT} {rest : List Expr}
def tAnd (t u : TT) : TT := fun σ H Q => t σ H fun c H1 => if c = true then u σ H1 Q else Q false H1
def tOr (t u : TT) : TT := fun σ H Q => t σ H fun c H1 => if c = true then Q true H1 else u σ H1 Q
def tNot (t : TT) : TT := fun σ H Q => t σ H fun c H1 => Q (!c) H1
theorem zeK (ha : PT X a tA) : PW X (.BoolOp .And [a] pos) tA := by
 intro wh pins s σ H Q I h
 refine isTrue_and (thn (ha pins s σ H Q I h) fun c s1 e => ?_)
 cases c with
 | true => exact isTrue_and_nil e
 | false => exact e
theorem zcd (ha : PT X a tA) : PW X (.BoolOp .Or [a] pos) tA := by
 intro wh pins s σ H Q I h
 refine isTrue_or (thn (ha pins s σ H Q I h) fun c s1 e => ?_)
 cases c with
 | false => exact isTrue_or_nil e
 | true => exact e
theorem zfu (ha : PT X a tA) (hb : PW X (.BoolOp .And (b :: rest) pos) tB') : PW X (.BoolOp .And (a :: b :: rest) pos) (tAnd tA tB') := by
 intro wh pins s σ H Q I h
 refine isTrue_and (thn (ha pins s σ H _ I h) fun c s1 ⟨H1, I1, q1⟩ => ?_)
 cases c with
 | true => exact hb wh pins s1 σ H1 Q I1 q1
 | false => exact ⟨H1, I1, q1⟩
theorem zcW (ha : PT X a tA) (hb : PW X (.BoolOp .Or (b :: rest) pos) tB') : PW X (.BoolOp .Or (a :: b :: rest) pos) (tOr tA tB') := by
 intro wh pins s σ H Q I h
 refine isTrue_or (thn (ha pins s σ H _ I h) fun c s1 ⟨H1, I1, q1⟩ => ?_)
 cases c with
 | true => exact ⟨H1, I1, q1⟩
 | false => exact hb wh pins s1 σ H1 Q I1 q1
theorem zbl (ha : PT X a tA) : PT X (.UnaryOp .Not a pos) (tNot tA) := by
 intro pins s σ H Q I h
 exact isTrue_not (ha pins s σ H (fun c H1 => Q (!c) H1) I h)
def zlZ (ta tb : TE) : TE := fun σ H Q => ta σ H fun x H1 => ∃ c, x = .bl c ∧ if c = true then tb σ H1 Q else Q (.bl false) H1
def tOrV (ta tb : TE) : TE := fun σ H Q => ta σ H fun x H1 => ∃ c, x = .bl c ∧ if c = true then Q (.bl true) H1 else tb σ H1 Q
def zlU (ta : TE) : TE := fun σ H Q => ta σ H fun x H1 => ∃ c, x = .bl c ∧ Q (.bl (!c)) H1
theorem zcg {op} {t : TE} (h : PE X a t) : PE X (.BoolOp op [a] pos) t := fun pins s σ H Q I hw => BoolOp_one (h pins s σ H Q I hw)
theorem zcG (ha : PE X a ta) (hb : PE X (.BoolOp .And (b :: rest) pos) tb) : PE X (.BoolOp .And (a :: b :: rest) pos) (zlZ ta tb) := by
 intro pins s σ H Q I h
 refine BoolOp_and (thn (ha pins s σ H _ I h) fun v s1 ⟨x, H1, I1, r1, q1⟩ => ?_)
 obtain ⟨c, rfl, q1⟩ := q1
 cases r1
 refine wpAny_truthy_bool ?_
 cases c with
 | true => exact hb pins s1 σ H1 Q I1 q1
 | false => exact ⟨.bl false, H1, I1, rfl, q1⟩
theorem zkS (ha : PE X a ta) (hb : PE X (.BoolOp .Or (b :: rest) pos) tb) : PE X (.BoolOp .Or (a :: b :: rest) pos) (tOrV ta tb) := by
 intro pins s σ H Q I h
 refine BoolOp_or (thn (ha pins s σ H _ I h) fun v s1 ⟨x, H1, I1, r1, q1⟩ => ?_)
 obtain ⟨c, rfl, q1⟩ := q1
 cases r1
 refine wpAny_truthy_bool ?_
 cases c with
 | false => exact hb pins s1 σ H1 Q I1 q1
 | true => exact ⟨.bl true, H1, I1, rfl, q1⟩
theorem zkj (ha : PE X a ta) : PE X (.UnaryOp .Not a pos) (zlU ta) := by
 intro pins s σ H Q I h
 refine UnaryOp_ (thn (ha pins s σ H _ I h) fun v s1 ⟨x, H1, I1, r1, q1⟩ => ?_)
 obtain ⟨c, rfl, q1⟩ := q1
 cases r1
 exact not_of (wpAny_truthy_bool ⟨.bl (!c), H1, I1, rfl, q1⟩)
def tIf (t : TT) (ta tb : TE) : TE := fun σ H Q => t σ H fun c H1 => if c = true then ta σ H1 Q else tb σ H1 Q
theorem zdF {c : Expr} (hc : PT X c tA) (ha : PE X a ta) (hb : PE X b tb) : PE X (.IfExp c a b pos) (tIf tA ta tb) := by
 intro pins s σ H Q I h
 refine wpAny_IfExp (thn (hc pins s σ H _ I h) fun d s1 ⟨H1, I1, q1⟩ => ?_)
 cases d with
 | true => exact ha pins s1 σ H1 Q I1 q1
 | false => exact hb pins s1 σ H1 Q I1 q1
end
def SqL (K : PySem.W.Frag) (H : Hp) (a : Addr) (xs : List V) : Prop :=
 Rd H a (.lst xs) ∨
  ∃ (o : Obj) (its : Array Value) (n : Nat), K.lookup a = some o ∧ o.cls = .type "list" ∧ o.dict = none ∧ o.data = .seq its n ∧ its.size ≤ sizeLine ∧ Vals xs its.toList
def SqT (K : PySem.W.Frag) (H : Hp) (a : Addr) (xs : List V) : Prop :=
 Rd H a (.tup xs) ∨
  ∃ (o : Obj) (its : Array Value) (n : Nat), K.lookup a = some o ∧ o.cls = .type "tuple" ∧ o.data = .seq its n ∧ its.size ≤ sizeLine ∧ Vals xs its.toList
def absV : Value → Option V
 | .none => some .non
 | .bool b => some (.bl b)
 | .int i _ => some (.int i)
 | .str x _ => some (.str x)
 | .bytes b _ => some (.byt b)
 | .float b _ => some (.flt b)
 | .ref a => some (.ref a)
 | .type n => some (.ty n)
 | _ => none
theorem RelV.abs {x : V} {u : Value} (r : RelV x u) : absV u = some x := by
 cases x with
 | non => cases r; rfl
 | bl _ => cases r; rfl
 | int _ => obtain ⟨t, rfl⟩ := r; rfl
 | str _ => obtain ⟨t, rfl⟩ := r; rfl
 | byt _ => obtain ⟨t, rfl⟩ := r; rfl
 | flt _ => obtain ⟨t, rfl⟩ := r; rfl
 | ref _ => cases r; rfl
 | ty _ => cases r; rfl
theorem RelV.inj {x y : V} {u : Value} (r : RelV x u) (q : RelV y u) : x = y := Option.some.inj (r.abs.symm.trans q.abs)
theorem Vals.inj : ∀ {xs ys : List V} {us : List Value}, Vals xs us → Vals ys us → xs = ys
 | _, _, _, .nil, .nil => rfl
 | _, _, _, .cons r t, .cons r' t' => by rw [r.inj r', Vals.inj t t']
section
variable {X : Cx} {pins : List (Addr × Obj)} {σ : St} {H : Hp} {s : Shared} {a : Addr} {xs ys : List V}
theorem SqL.of {K : PySem.W.Frag} (h : H a = some (.lst xs)) : SqL K H a xs := .inl (.inl h)
theorem SqT.of {K : PySem.W.Frag} (h : H a = some (.tup xs)) : SqT K H a xs := .inl (.inl h)
theorem Inv.list (I : Inv X pins σ H s) (h : SqL X.K H a xs) : ∃ its : List Value, Vals xs its ∧ PlainL s.heap a its.toArray ∧ xs.length ≤ sizeLine := by
 rcases h with h | ⟨o, its, n, hk, hc, hd, hs, hz, r⟩
 · obtain ⟨z, its, n, r, e⟩ := h.ok I.hok
   exact ⟨its, r, ⟨_, n, e, rfl, rfl, rfl⟩, z⟩
 · refine ⟨its.toList, r, ⟨o, n, I.kIn a o hk, hc, hd, by simpa using hs⟩, ?_⟩
   have e := r.length
   simp only [Array.length_toList] at e
   omega
theorem Inv.tuple (I : Inv X pins σ H s) (h : SqT X.K H a xs) : ∃ its : List Value, Vals xs its ∧ IsTup s.heap a its.toArray ∧ xs.length ≤ sizeLine := by
 rcases h with h | ⟨o, its, n, hk, hc, hs, hz, r⟩
 · obtain ⟨z, its, r, p⟩ := h.ok I.hok
   exact ⟨its, r, p.tup, z⟩
 · refine ⟨its.toList, r, ⟨o, I.kIn a o hk, hc, n, by simpa using hs⟩, ?_⟩
   have e := r.length
   simp only [Array.length_toList] at e
   omega
theorem Inv.list_inj (I : Inv X pins σ H s) (h : SqL X.K H a xs) (h' : SqL X.K H a ys) : xs = ys := by
 obtain ⟨its, r, ⟨o, n, e, _, _, d⟩, _⟩ := I.list h
 obtain ⟨its', r', ⟨o', n', e', _, _, d'⟩, _⟩ := I.list h'
 rw [e] at e'; cases e'
 rw [d] at d'
 injection d' with d1 _
 have : its = its' := by simpa using congrArg Array.toList d1
 subst this
 exact r.inj r'
theorem Inv.tuple_inj (I : Inv X pins σ H s) (h : SqT X.K H a xs) (h' : SqT X.K H a ys) : xs = ys := by
 obtain ⟨its, r, ⟨o, e, _, n, d⟩, _⟩ := I.tuple h
 obtain ⟨its', r', ⟨o', e', _, n', d'⟩, _⟩ := I.tuple h'
 rw [e] at e'; cases e'
 rw [d] at d'
 injection d' with d1 _
 have : its = its' := by simpa using congrArg Array.toList d1
 subst this
 exact r.inj r'
end
abbrev Cx.wish (X : Cx) (E : Value → Shared → Prop) : Cx := { X with xe := E }
abbrev Cx.nox (X : Cx) : Cx := X.wish fun _ _ => False
theorem Cx.Ok.wish {X : Cx} (ok : X.Ok) (E : Value → Shared → Prop) : (X.wish E).Ok :=
 ⟨ok.mod, ok.kind, ok.glob, ok.blt, ok.above, ok.inj, ok.has, ok.cab, ok.hd, ok.frames, ok.stk, ok.exf, ok.bs, ok.bsz, ok.noex, ok.exfs, ok.funs, ok.frf⟩
theorem Cx.Ok.unwish {X : Cx} {E : Value → Shared → Prop} (ok : (X.wish E).Ok) : X.Ok :=
 ⟨ok.mod, ok.kind, ok.glob, ok.blt, ok.above, ok.inj, ok.has, ok.cab, ok.hd, ok.frames, ok.stk, ok.exf, ok.bs, ok.bsz, ok.noex, ok.exfs, ok.funs, ok.frf⟩
section
variable {X : Cx} {pins : List (Addr × Obj)} {σ : St} {H : Hp} {s : Shared} {E : Value → Shared → Prop}
theorem Inv.wish (I : Inv X pins σ H s) (E : Value → Shared → Prop) : Inv (X.wish E) pins σ H s := ⟨I.ok.wish E, I.os, I.bare, I.base, I.loc, I.cell, I.free, I.freeC, I.pin, I.hok, I.len⟩
theorem Inv.unwish (I : Inv (X.wish E) pins σ H s) : Inv X pins σ H s := ⟨I.ok.unwish, I.os, I.bare, I.base, I.loc, I.cell, I.free, I.freeC, I.pin, I.hok, I.len⟩
theorem SP.unwish {D : Ends} {f : Flow} {s' : Shared} (h : SP (X.wish E) pins D f s') : SP X pins D f s' := by
 cases f with
 | next => obtain ⟨σ', H', I, q⟩ := h; exact ⟨σ', H', I.unwish, q⟩
 | brk => obtain ⟨σ', H', I, q⟩ := h; exact ⟨σ', H', I.unwish, q⟩
 | cont => obtain ⟨σ', H', I, q⟩ := h; exact ⟨σ', H', I.unwish, q⟩
 | ret u => obtain ⟨v, σ', H', I, r, q⟩ := h; exact ⟨v, σ', H', I.unwish, r, q⟩
theorem PSs.nox {st : List Stmt} {t : TS} (h : PSs X.nox st t) : PSs X st t := fun pins s σ H D I hw =>
 wpAny_mono (h pins s σ H D (I.wish _) hw) (fun _ _ q => q.unwish) fun _ _ z => False.elim z
end
section
variable {X : Cx} {st : Stmt} {rest : List Stmt} {t u : TS} {e : Expr} {te : TE} {pos : Pos}
def zlW : TS := fun D σ H => D.nx σ H
def tSeq (t u : TS) : TS := fun D σ H => t { D with nx := u D } σ H
theorem zas : PSs X [] zlW := fun _ _ σ H _ I h => wpAny_execs_nil ⟨σ, H, I, h⟩
theorem zad (h1 : PS X st t) (h2 : PSs X rest u) : PSs X (st :: rest) (tSeq t u) := by
 intro pins s σ H D I h
 refine wpAny_execs_cons (thn (h1 pins s σ H { D with nx := u D } I h) fun f s1 q => ?_)
 cases f with
 | next =>
  obtain ⟨σ', H', I', q⟩ := q
  exact h2 pins s1 σ' H' D I' q
 | ret v => exact q
 | brk => exact q
 | cont => exact q
theorem zah (h1 : PS X st t) : PSs X [st] t := by
 intro pins s σ H D I h
 refine wpAny_execs_cons (thn (h1 pins s σ H D I h) fun f s1 q => ?_)
 cases f with
 | next => exact wpAny_execs_nil q
 | ret v => exact q
 | brk => exact q
 | cont => exact q
theorem Inv.quiet {pins : List (Addr × Obj)} {σ : St} {H : Hp} {s : Shared} (I : Inv X pins σ H s) : interactive X.env = false := by simp [interactive, I.ok.kind]
def zlX (te : TE) : TS := fun D σ H => te σ H fun _ H1 => D.nx σ H1
theorem zcl (he : PE X e te) (hs : swapsWith e none pos.line X.env = pure false := by rfl) : PS X (.Expr e pos) (zlX te) := by
 intro pins s σ H D I h
 exact wpAny_Expr_any (thn (he pins s σ H _ I h) fun v s1 ⟨x, H1, I1, r1, q1⟩ => ⟨σ, H1, I1, q1⟩) I.quiet hs
def tRet (te : TE) : TS := fun D σ H => te σ H D.rt
theorem zap (he : PE X e te) : PS X (.Return (some e) pos) (tRet te) := by
 intro pins s σ H D I h
 exact wpAny_Return_some (thn (he pins s σ H _ I h) fun v s1 ⟨x, H1, I1, r1, q1⟩ => ⟨x, σ, H1, I1, r1, q1⟩)
def tIfS (c : TT) (t u : TS) : TS := fun D σ H => c σ H fun b H1 => if b = true then t D σ H1 else u D σ H1
theorem zaK {c : Expr} {a b : List Stmt} {tc : TT} (hc : PT X c tc) (ha : PSs X a t) (hb : PSs X b u) : PS X (.If c a b pos) (tIfS tc t u) := by
 intro pins s σ H D I h
 refine wpAny_If (thn (hc pins s σ H _ I h) fun d s1 ⟨H1, I1, q1⟩ => ?_)
 cases d with
 | true => exact ha pins s1 σ H1 D I1 q1
 | false => exact hb pins s1 σ H1 D I1 q1
def zle : TS := fun _ _ _ => False
theorem zdE : PS X st zle := fun _ _ _ _ _ _ h => h.elim
end
abbrev TG := V → St → Hp → (St → Hp → Prop) → Prop
abbrev TGs := List V → St → Hp → (St → Hp → Prop) → Prop
def PG (X : Cx) (target : Expr) (t : TG) : Prop :=
 ∀ (pins : List (Addr × Obj)) (s : Shared) (σ : St) (H : Hp) (v : V) (u : Value) (Q : St → Hp → Prop), Inv X pins σ H s → RelV v u → t v σ H Q →
  wpAny (model X.prog X.w) X.A (assign target X.env u) (fun _ s' => ∃ σ' H', Inv X pins σ' H' s' ∧ Q σ' H') X.xe s
def PGs (X : Cx) (ts : List Expr) (t : TGs) : Prop :=
 ∀ (pins : List (Addr × Obj)) (s : Shared) (σ : St) (H : Hp) (vs : List V) (us : List Value) (Q : St → Hp → Prop), Inv X pins σ H s → Vals vs us → t vs σ H Q →
  wpAny (model X.prog X.w) X.A (assignInOrder ((assignEach ts X.env).map (·.2)) us) (fun _ s' => ∃ σ' H', Inv X pins σ' H' s' ∧ Q σ' H') X.xe s
abbrev TSet := V → V → V → Hp → (Hp → Prop) → Prop
def PSet (X : Cx) (t : TSet) : Prop :=
 ∀ (pins : List (Addr × Obj)) (s : Shared) (σ : St) (H : Hp) (o i v : V) (ov iv u : Value) (Q : Hp → Prop), Inv X pins σ H s → RelV o ov → RelV i iv → RelV v u → t o i v H Q →
  wpAny (model X.prog X.w) X.A (setItem ov iv u) (fun _ s' => ∃ H', Inv X pins σ H' s' ∧ Q H') X.xe s
section
variable {X : Cx} {pos : Pos}
def zcO (i : Nat) : TG := fun v σ H Q => Q (σ.set i (some v)) H
theorem zaj {i : Nat} {x : Str} (hN : X.N.Nodup) (hi : X.N[i]? = some x) (hx : Loc X.env.scope x) (hf : X.fn x = true ∨ X.env.scope.names.lookup x = some .local := by first | exact .inl rfl | exact .inr rfl | assumption) : PG X (.Name x pos) (zcO i) := by
 intro pins s σ H v u Q I r h
 exact wpAny_assign_Name (zha I hN hi hx r (fun s' I' => ⟨_, H, I', h⟩) hf)
def gNil : TGs := fun vs σ H Q => vs = [] ∧ Q σ H
def zmb (t : TG) (u : TGs) : TGs := fun vs σ H Q => ∃ v r, vs = v :: r ∧ t v σ H fun σ' H' => u r σ' H' Q
theorem za1 : PGs X [] gNil := by
 intro pins s σ H vs us Q I r h
 obtain ⟨e, h⟩ := h
 subst e
 cases r
 exact assignInOrder_nil ⟨σ, H, I, h⟩
theorem zam {e : Expr} {es : List Expr} {t : TG} {u : TGs} (h1 : PG X e t) (h2 : PGs X es u)
 (hs : (assignEach (e :: es) X.env).map (·.2) = assign e X.env :: (assignEach es X.env).map (·.2) := by rfl) : PGs X (e :: es) (zmb t u) := by
 intro pins s σ H vs us Q I r h
 obtain ⟨v, vr, e1, h⟩ := h
 subst e1
 cases r with
 | cons r rr =>
  rw [hs]
  refine assignInOrder_cons (thn (h1 pins s σ H _ _ _ I r h) fun _ s1 ⟨σ1, H1, I1, q1⟩ => ?_)
  exact h2 pins s1 σ1 H1 _ _ Q I1 rr q1
def gTup (K : PySem.W.Frag) (n : Nat) (t : TGs) : TG := fun v σ H Q => ∃ a xs, v = .ref a ∧ SqT K H a xs ∧ xs.length = n ∧ t xs σ H Q
theorem zcf {es : List Expr} {k : Nat} {t : TGs} {n : Nat} (hc : X.calm = true) (h : PGs X es t)
 (hn : (assignEach es X.env).length = n := by rfl) (hst : (assignEach es X.env).findIdx? (·.1) = none := by rfl) : PG X (.Tuple es k pos) (gTup X.K n t) := by
 intro pins s σ H v u Q I r hw
 obtain ⟨a, xs, e1, hq, hl, hw⟩ := hw
 subst e1
 cases r
 obtain ⟨its, rv, ht, hz⟩ := I.tuple hq
 refine assign_Tuple_tuple (I.ok.hd hc) ht (by simp [hn, ← hl, rv.length]) hst fun h' hx => ?_
 have I1 : Inv X pins σ H { s with heap := h' } := I.kept (t' := s.toks) fun b o e => hx b o (Nat.ne_of_lt (Heap.lt_size e)) e
 exact h pins _ σ H xs _ Q I1 (by simpa using rv) hw
def gSub (to ti : TE) (t : TSet) : TG := fun v σ H Q => to σ H fun o H1 => ti σ H1 fun i H2 => t o i v H2 fun H3 => Q σ H3
theorem ziB {o i : Expr} {to ti : TE} {t : TSet} (ho : PE X o to) (hi : PE X i ti) (hs : PSet X t)
 (ha : ∀ v, assign (.Subscript o i pos) X.env v = (do
  let ov ← holding [v] (eval o X.env)
  let iv ← holding [v, ov] (eval i X.env)
  standAt pos
  holding [v, ov, iv] (setItem ov iv v)
  release [v, ov, iv] []) := by intro _; rfl) : PG X (.Subscript o i pos) (gSub to ti t) := by
 intro pins s σ H v u Q I r h
 rw [ha]
 refine wpAny_bind (wpAny_holding (thn (ho pins s σ H _ I h) fun ov s1 ⟨x, H1, I1, r1, q1⟩ => ?_))
 refine wpAny_bind (wpAny_holding (thn (hi pins s1 σ H1 _ I1 q1) fun iv s2 ⟨y, H2, I2, r2, q2⟩ => ?_))
 refine wpAny_bind (wpAny_standAt (wpAny_bind (wpAny_holding (thn (hs pins s2 σ H2 x y v ov iv u _ I2 r1 r2 r q2) fun _ s3 ⟨H3, I3, q3⟩ => ?_))))
 exact wpAny_release ⟨σ, H3, I3, q3⟩
def tAsg (te : TE) (g : TG) : TS := fun D σ H => te σ H fun x H1 => g x σ H1 D.nx
theorem zcX {tg e : Expr} {te : TE} {g : TG} (he : PE X e te) (hg : PG X tg g) (hs : swapsWithSole [tg] e pos.line X.env = pure false := by rfl) (hw : swappedStores [tg] e X.env = pure none := by rfl)
 (h1 : (assignEach [tg] X.env).map (·.2) = [assign tg X.env] := by rfl) : PS X (.Assign [tg] e pos) (tAsg te g) := by
 intro pins s σ H D I h
 refine wpAny_Assign_stores (thn (he pins s σ H _ I h) fun v s1 ⟨x, H1, I1, r1, q1⟩ => ?_) hs hw
 rw [h1]
 exact thn (hg pins s1 σ H1 x v _ I1 r1 q1) fun _ s2 q => q
theorem zao {i : Nat} {x : Str} {e : Expr} {te : TE} {pos' : Pos} (hN : X.N.Nodup) (hi : X.N[i]? = some x) (hx : Loc X.env.scope x) (he : PE X e te) (hs : swapsWith e (some (.Name x pos')) pos.line X.env = pure false := by rfl) (hf : X.fn x = true ∨ X.env.scope.names.lookup x = some .local := by first | exact .inl rfl | exact .inr rfl | assumption) :
 PS X (.Assign [.Name x pos'] e pos) (tAsg te (zcO i)) := by
 intro pins s σ H D I h
 refine wpAny_Assign_Name (thn (he pins s σ H _ I h) fun v s1 ⟨y, H1, I1, r1, q1⟩ => ?_) hs
 exact zha I1 hN hi hx r1 (fun s2 I2 => ⟨_, H1, I2, q1⟩) hf
end
section
variable {X : Cx} {pos : Pos}
end
structure It where
 go : Nat → Hp → Prop
 yld : Nat → Hp → V → Hp → Prop
 stop : Nat → Hp → Prop
def FpOk (X : Cx) (pins : List (Addr × Obj)) (H : Hp) (b : Addr) : Prop :=
 H b = none ∧ b ≠ X.env.locals ∧ b ∉ X.fs ∧ (b ∈ X.ex ∨ X.s₀.heap.objs.size ≤ b) ∧ (∀ x c, X.env.cells.lookup x = some c → c ≠ b) ∧ ∀ p ∈ X.pn ++ pins, p.1 ≠ b
theorem Inv.fpOk {X : Cx} {pins : List (Addr × Obj)} {σ : St} {H H' : Hp} {s : Shared} {b : Addr} (I : Inv X pins σ H s) (hb : s.heap.objs.size ≤ b) (hn : H' b = none) : FpOk X pins H' b := by
 refine ⟨hn, Nat.ne_of_gt (Nat.lt_of_lt_of_le I.lt hb), I.nofs hb, .inr (Nat.le_trans I.sz hb), fun x c e z => ?_, fun p hp z => ?_⟩
 · obtain ⟨v, q⟩ := I.cell x c e
   exact absurd (Nat.lt_of_lt_of_le q.lt (by rw [z]; exact hb)) (Nat.lt_irrefl _)
 · exact absurd (Nat.lt_of_lt_of_le (Heap.lt_size (I.pin p hp).1) (by rw [z]; exact hb)) (Nat.lt_irrefl _)
structure Turn (P : Program) (w : World) (K : PySem.W.Frag) (tg : Expr) (J : It) (fp : List Addr) (it : Addr) (tn : Nat → Heap → Prop) : Prop where
 mem : it ∈ fp
 obj : ∀ i h, tn i h → ∀ b ∈ fp, ∃ o, h.get? b = some o ∧ ∀ v, o.data ≠ .cell v
 keep : ∀ i h h', tn i h → (∀ b ∈ fp, ∀ o, h.get? b = some o → h'.get? b = some o) → tn i h'
 item : ∀ (X : Cx), X.prog = P → X.w = w → X.K = K → X.calm = true → ∀ (i : Nat) (pins : List (Addr × Obj)) (s : Shared) (σ : St) (H : Hp) (E : Value → Shared → Prop), Inv X pins σ H s → (∀ b ∈ fp, FpOk X pins H b) → tn i s.heap → J.go i H →
  wpAny (model P w) X.A (pyNext (.ref it)) (fun r s1 => ∃ u, r = some u ∧
   wpAny (model P w) X.A (letOwnedTupleGo tg (.ref it) u) (fun _ s2 => ∃ x H', Inv X pins σ H' s2 ∧ RelV x u ∧ J.yld i H x H' ∧ tn (i + 1) s2.heap ∧ ∀ b ∈ fp, H' b = none) E s1) E s
 done : ∀ (X : Cx), X.prog = P → X.w = w → X.K = K → X.calm = true → ∀ (i : Nat) (pins : List (Addr × Obj)) (s : Shared) (σ : St) (H : Hp) (E : Value → Shared → Prop), Inv X pins σ H s → (∀ b ∈ fp, FpOk X pins H b) → tn i s.heap → J.stop i H →
  wpAny (model P w) X.A (pyNext (.ref it)) (fun r s1 => r = none ∧ Inv X pins σ H s1) E s
 self : ∀ (A : Around) (i : Nat) (s : Shared) (Q : Value → Shared → Prop) (E : Value → Shared → Prop), tn i s.heap → Q (.ref it) s → wpAny (model P w) A (pyIter (.ref it)) Q E s
abbrev TI := St → Hp → (It → Hp → Prop) → Prop
def PIE (X : Cx) (pins : List (Addr × Obj)) (σ : St) (tg : Expr) (R : It → Hp → Prop) (itv : Value) (s2 : Shared) : Prop :=
 ∃ (it : Addr) (fp : List Addr) (tn : Nat → Heap → Prop) (J : It) (H' : Hp), itv = .ref it ∧ Inv X pins σ H' s2 ∧ Turn X.prog X.w X.K tg J fp it tn ∧ tn 0 s2.heap ∧ (∀ b ∈ fp, FpOk X pins H' b) ∧ R J H'
def PI (X : Cx) (tg iter : Expr) (wi : TI) : Prop :=
 ∀ (pins : List (Addr × Obj)) (s : Shared) (σ : St) (H : Hp) (R : It → Hp → Prop), Inv X pins σ H s → wi σ H R →
  wpAny (model X.prog X.w) X.A (eval iter X.env) (fun v s1 => wpAny (model X.prog X.w) X.A (pyIter v) (PIE X pins σ tg R) X.xe s1) X.xe s
theorem zi8 {M : Model} {A : Around} {E : Value → Shared → Prop} {s : Shared} {tg : Expr} {it : Addr} {u : Value} {o : Obj} {n : String} {vs : Array Value} {Q : Unit → Shared → Prop} (ho : s.heap.get? it = some o) (hc : o.cls = .type n) (hd : o.data = .fields vs)
 (hn : ["enumerate", "zip", "dict_itemiterator", "dict_reverseitemiterator", "odict_iterator", "itertools.zip_longest", "itertools.pairwise"].contains n = false) (hQ : Q () s) : wpAny M A (letOwnedTupleGo tg (.ref it) u) Q E s := by
 unfold letOwnedTupleGo
 cases tg <;> first
  | exact wpAny_pure hQ
  | (cases u <;> first
   | exact wpAny_pure hQ
   | (refine wpAny_bind (wpAny_load ho ?_)
      rw [hc, hd]
      show wpAny M A (if (["enumerate", "zip", "dict_itemiterator", "dict_reverseitemiterator", "odict_iterator", "itertools.zip_longest", "itertools.pairwise"].contains n && vs[0]? == some (rawInt _)) = true then _ else _) Q E s
      rw [if_neg (by intro h; rw [hn, Bool.false_and] at h; cases h)]
      exact wpAny_pure hQ))
def Itl (K : PySem.W.Frag) (a : Addr) : It :=
 ⟨fun i H => ∃ xs x, SqL K H a xs ∧ xs[i]? = some x, fun i H x H' => H' = H ∧ ∀ xs, SqL K H a xs → xs[i]? = some x, fun i H => ∃ xs, SqL K H a xs ∧ xs.length ≤ i⟩
def Itt (K : PySem.W.Frag) (a : Addr) : It :=
 ⟨fun i H => ∃ xs x, SqT K H a xs ∧ xs[i]? = some x, fun i H x H' => H' = H ∧ ∀ xs, SqT K H a xs → xs[i]? = some x, fun i H => ∃ xs, SqT K H a xs ∧ xs.length ≤ i⟩
def Itr (lo : Int) (n : Nat) : It := ⟨fun i _ => i < n, fun i H x H' => H' = H ∧ x = .int (lo + i), fun i _ => n ≤ i⟩
theorem zh9 {P : Program} {w : World} {K : PySem.W.Frag} {tg : Expr} (a it : Addr) : Turn P w K tg (Itl K a) [it] it (fun i h => h.IsListIter it a i) where
 mem := by simp
 obj := fun i h st b hb => by
  have e : b = it := by simpa using hb
  subst e
  obtain ⟨o, e, c, d⟩ := st
  exact ⟨o, e, fun v z => by rw [d] at z; cases z⟩
 keep := fun i h h' st k => st.at fun o e => k it (by simp) o e
 item := by
  intro X hP hw hK hc i pins s σ H E I hf st hg
  subst hP hw hK
  obtain ⟨xs, x, hq, hx⟩ := hg
  obtain ⟨its, rv, p, hz⟩ := I.list hq
  obtain ⟨u, hu, ru⟩ := rv.get hx
  obtain ⟨f0, f1, f2, f3, f4, f5⟩ := hf it (by simp)
  refine wpAny_pyNext_list_item st p.isList (x := u) (by simpa using hu) fun h' st' sb => ?_
  have I1 : Inv X pins σ H { s with heap := h' } := I.turned (t' := s.toks) (fun b o hb e => (sb.2 b hb).trans e) f0 f1 f3 f4 f5
  obtain ⟨o, e, c, d⟩ := id st'
  exact ⟨u, rfl, zi8 (s := { s with heap := h' }) e c d (by decide) ⟨x, H, I1, ru, ⟨rfl, fun ys hy => by rw [I.list_inj hy hq]; exact hx⟩, st', fun b hb => (hf b hb).1⟩⟩
 done := by
  intro X hP hw hK hc i pins s σ H E I hf st hg
  subst hP hw hK
  obtain ⟨xs, hq, hx⟩ := hg
  obtain ⟨its, rv, p, hz⟩ := I.list hq
  obtain ⟨f0, f1, f2, f3, f4, f5⟩ := hf it (by simp)
  have hl := rv.length
  exact wpAny_pyNext_list_end (I.ok.hd hc) st p.isList (by simp; omega) fun h' eb => ⟨rfl, I.turned (t' := s.toks) (fun b o hb e => eb b o hb e) f0 f1 f3 f4 f5⟩
 self := fun _ _ _ _ _ st h => wpAny_pyIter_listiter st h
theorem zhx {P : Program} {w : World} {K : PySem.W.Frag} {tg : Expr} (a it : Addr) : Turn P w K tg (Itt K a) [it] it (fun i h => h.IsTupleIter it a i) where
 mem := by simp
 obj := fun i h st b hb => by
  have e : b = it := by simpa using hb
  subst e
  obtain ⟨o, e, c, d⟩ := st
  exact ⟨o, e, fun v z => by rw [d] at z; cases z⟩
 keep := fun i h h' st k => st.at fun o e => k it (by simp) o e
 item := by
  intro X hP hw hK hc i pins s σ H E I hf st hg
  subst hP hw hK
  obtain ⟨xs, x, hq, hx⟩ := hg
  obtain ⟨its, rv, p, hz⟩ := I.tuple hq
  obtain ⟨u, hu, ru⟩ := rv.get hx
  obtain ⟨f0, f1, f2, f3, f4, f5⟩ := hf it (by simp)
  refine wpAny_pyNext_tuple_item st (show s.heap.IsTuple a its.toArray from p) (x := u) (by simpa using hu) fun h' st' sb => ?_
  have I1 : Inv X pins σ H { s with heap := h' } := I.turned (t' := s.toks) (fun b o hb e => (sb.2 b hb).trans e) f0 f1 f3 f4 f5
  obtain ⟨o, e, c, d⟩ := id st'
  exact ⟨u, rfl, zi8 (s := { s with heap := h' }) e c d (by decide) ⟨x, H, I1, ru, ⟨rfl, fun ys hy => by rw [I.tuple_inj hy hq]; exact hx⟩, st', fun b hb => (hf b hb).1⟩⟩
 done := by
  intro X hP hw hK hc i pins s σ H E I hf st hg
  subst hP hw hK
  obtain ⟨xs, hq, hx⟩ := hg
  obtain ⟨its, rv, p, hz⟩ := I.tuple hq
  obtain ⟨f0, f1, f2, f3, f4, f5⟩ := hf it (by simp)
  have hl := rv.length
  exact wpAny_pyNext_tuple_end (I.ok.hd hc) st (show s.heap.IsTuple a its.toArray from p) (by simp; omega) fun h' eb => ⟨rfl, I.turned (t' := s.toks) (fun b o hb e => eb b o hb e) f0 f1 f3 f4 f5⟩
 self := fun _ _ _ _ _ st h => wpAny_pyIter_tupleiter st h
theorem zhy {P : Program} {w : World} {K : PySem.W.Frag} {tg : Expr} (it : Addr) (lo : Int) (n : Nat) : Turn P w K tg (Itr lo n) [it] it (fun i h => IsRangeIter h it (lo + (i : Nat) * 1) ((n : Int) - (i : Nat)) 1) where
 mem := by simp
 obj := fun i h st b hb => by
  have e : b = it := by simpa using hb
  subst e
  exact ⟨_, st, fun v z => by
   have z' : Data.fields _ = Data.cell v := z
   cases z'⟩
 keep := fun i h h' st k => k it (by simp) _ st
 item := by
  intro X hP hw hK hc i pins s σ H E I hf st hg
  subst hP hw hK
  obtain ⟨f0, f1, f2, f3, f4, f5⟩ := hf it (by simp)
  have W := Walks.range (prog := X.prog) (w := X.w) (I.ok.hd hc) it lo 1 n
  refine W.item i s _ _ hg st fun v h' tk hv st' kk => ?_
  obtain ⟨t, rfl⟩ := hv
  have I1 : Inv X pins σ H { s with heap := h', toks := tk } := I.turned (fun b o hb e => kk b o (by simpa using hb) e) f0 f1 f3 f4 f5
  refine ⟨_, rfl, zi8 (s := { s with heap := h', toks := tk }) (n := "range_iterator") st' rfl rfl (by decide) ⟨.int (lo + i), H, I1, ⟨t, ?_⟩, ⟨rfl, rfl⟩, st', fun b hb => (hf b hb).1⟩⟩
  rw [Int.mul_one]
 done := by
  intro X hP hw hK hc i pins s σ H E I hf st hg
  subst hP hw hK
  obtain ⟨f0, f1, f2, f3, f4, f5⟩ := hf it (by simp)
  exact wpAny_pyNext_range_end (I.ok.hd hc) st (by have : n ≤ i := hg; omega) fun h' eb => ⟨rfl, I.turned (t' := s.toks) (fun b o hb e => eb b o hb e) f0 f1 f3 f4 f5⟩
 self := fun _ _ _ _ _ st h => wpAny_pyIter_rangeiter st h
section
variable {X : Cx} {tg : Expr}
def zlI (K : PySem.W.Frag) (tl : TE) : TI := fun σ H R => tl σ H fun x H1 => ∃ a, x = .ref a ∧ (∃ xs, SqL K H1 a xs) ∧ R (Itl K a) H1
def iTup (K : PySem.W.Frag) (tl : TE) : TI := fun σ H R => tl σ H fun x H1 => ∃ a, x = .ref a ∧ (∃ xs, SqT K H1 a xs) ∧ R (Itt K a) H1
theorem zaT {l : Expr} {tl : TE} (hl : PE X l tl) : PI X tg l (zlI X.K tl) := by
 intro pins s σ H R I h
 refine thn (hl pins s σ H _ I h) fun v s1 ⟨x, H1, I1, r1, q1⟩ => ?_
 obtain ⟨a, e, ⟨xs, hq⟩, q⟩ := q1
 subst e
 cases r1
 obtain ⟨its, rv, p, hz⟩ := I1.list hq
 refine wpAny_pyIter_list p.isList ?_
 refine ⟨s1.heap.objs.size, [s1.heap.objs.size], _, _, H1, rfl, I1.kept (t' := s1.toks) fun b o e => Heap.get?_push_of_some _ e, zh9 a _, ⟨_, Heap.get?_push_size _ rfl, rfl, rfl⟩, fun b hb => ?_, q⟩
 have e : b = s1.heap.objs.size := by simpa using hb
 subst e
 exact I1.fpOk (Nat.le_refl _) (I1.hok.fresh (Nat.le_refl _))
theorem zcY {l : Expr} {tl : TE} (hl : PE X l tl) : PI X tg l (iTup X.K tl) := by
 intro pins s σ H R I h
 refine thn (hl pins s σ H _ I h) fun v s1 ⟨x, H1, I1, r1, q1⟩ => ?_
 obtain ⟨a, e, ⟨xs, hq⟩, q⟩ := q1
 subst e
 cases r1
 obtain ⟨its, rv, p, hz⟩ := I1.tuple hq
 refine wpAny_pyIter_tuple (show s1.heap.IsTuple a its.toArray from p) ?_
 refine ⟨s1.heap.objs.size, [s1.heap.objs.size], _, _, H1, rfl, I1.kept (t' := s1.toks) fun b o e => Heap.get?_push_of_some _ e, zhx a _, ⟨_, Heap.get?_push_size _ rfl, rfl, rfl⟩, fun b hb => ?_, q⟩
 have e : b = s1.heap.objs.size := by simpa using hb
 subst e
 exact I1.fpOk (Nat.le_refl _) (I1.hok.fresh (Nat.le_refl _))
theorem zhg {pins : List (Addr × Obj)} {σ : St} {H : Hp} {s : Shared} {R : It → Hp → Prop} {E : Value → Shared → Prop} {lo hi : Int} {t u v : Tok} {tk : Nat} (I : Inv X pins σ H s) (h1 : -(2 ^ 62) ≤ lo) (h2 : lo < 2 ^ 62) (h3 : -(2 ^ 62) ≤ hi) (h4 : hi < 2 ^ 62)
 (q : R (Itr lo (hi - lo).toNat) H) : wpAny (model X.prog X.w) X.A (pyIter (.ref s.heap.objs.size)) (PIE X pins σ tg R) E { s with heap := s.heap.push { cls := .type "range", data := .fields #[.int lo t, .int hi u, .int 1 v] }, toks := tk } := by
 refine wpAny_pyIter_range (IsRange.new ..) (small_one h1 h2 h3 h4) ?_
 have I1 : Inv X pins σ H { s with heap := s.heap.push { cls := .type "range", data := .fields #[.int lo t, .int hi u, .int 1 v] }, toks := tk } := I.kept fun b o e => Heap.get?_push_of_some _ e
 refine ⟨(s.heap.push { cls := .type "range", data := .fields #[.int lo t, .int hi u, .int 1 v] }).objs.size, [(s.heap.push { cls := .type "range", data := .fields #[.int lo t, .int hi u, .int 1 v] }).objs.size], _, _, H, rfl,
  I1.kept (t' := tk) fun b o e => Heap.get?_push_of_some _ e, zhy _ lo (hi - lo).toNat, ?_, fun b hb => ?_, q⟩
 · have e1 : lo + ((0 : Nat) : Int) * 1 = lo := by simp
   have e2 : (((hi - lo).toNat : Nat) : Int) - ((0 : Nat) : Int) = Builtin.Range.rangeSize lo hi 1 := by rw [rangeSize_one]; split <;> omega
   show IsRangeIter _ _ (lo + ((0 : Nat) : Int) * 1) ((((hi - lo).toNat : Nat) : Int) - ((0 : Nat) : Int)) 1
   rw [e1, e2]
   exact Heap.get?_push_size _ rfl
 · have e : b = (s.heap.push { cls := .type "range", data := .fields #[.int lo t, .int hi u, .int 1 v] }).objs.size := by simpa using hb
   subst e
   exact I1.fpOk (Nat.le_refl _) (I1.hok.fresh (Nat.le_refl _))
def zma (ta : TA) : TI := fun σ H R => ta σ H fun vs H1 => ∃ j : Int, vs = [.int j] ∧ -(2 ^ 62) ≤ j ∧ j < 2 ^ 62 ∧ R (Itr 0 j.toNat) H1
def zl9 (ta : TA) : TI := fun σ H R => ta σ H fun vs H1 => ∃ i j : Int, vs = [.int i, .int j] ∧ (-(2 ^ 62) ≤ i ∧ i < 2 ^ 62 ∧ -(2 ^ 62) ≤ j ∧ j < 2 ^ 62) ∧ R (Itr i (j - i).toNat) H1
theorem zcZ {a : Expr} {ta : TA} {p pos : Pos} (hg : Gl X "range") (hm : X.mg "range" = none) (ha : PA X [a] ta) (hs : starEach [a] X.env = [(false, eval a X.env)] := by rfl) : PI X tg (.Call (.Name "range" p) [a] [] pos) (zma ta) := by
 intro pins s σ H R I h
 refine Call_ (zc6 I hg hm boot_range (PyProof.Rows.callWith_type1 (thn (ha pos pins s σ H _ I h) fun us s1 ⟨vs, H1, I1, r1, q1⟩ => ?_) hs rfl))
 obtain ⟨j, e, q1, q2, q⟩ := q1
 subst e
 cases r1 with
 | cons r rr =>
  cases rr
  obtain ⟨t, rfl⟩ := r
  exact call_range_1 (zhg I1 (by omega) (by omega) q1 q2 (by simpa using q))
theorem ziA {a b : Expr} {ta : TA} {p pos : Pos} (hg : Gl X "range") (hm : X.mg "range" = none) (ha : PA X [a, b] ta) (hs : starEach [a, b] X.env = [(false, eval a X.env), (false, eval b X.env)] := by rfl) (hs2 : starEach [b] X.env = [(false, eval b X.env)] := by rfl) :
 PI X tg (.Call (.Name "range" p) [a, b] [] pos) (zl9 ta) := by
 intro pins s σ H R I h
 refine Call_ (zc6 I hg hm boot_range (PyProof.Rows.callWith_type1 (thn (ha pos pins s σ H _ I h) fun us s1 ⟨vs, H1, I1, r1, q1⟩ => ?_) (by rw [hs, hs2]) (by rw [hs2]; rfl)))
 obtain ⟨i, j, e, ⟨q1, q2, q3, q4⟩, q⟩ := q1
 subst e
 cases r1 with
 | cons r rr =>
  cases rr with
  | cons r' rr =>
   cases rr
   obtain ⟨t, rfl⟩ := r
   obtain ⟨t', rfl⟩ := r'
   exact call_range_2 (zhg I1 q1 q2 q3 q4 q)
def tFor (wi : TI) (g : TG) (tb : TS) : TS := fun D σ H => wi σ H fun J H1 => ∃ W : Nat → Nat → St → Hp → Prop, (∃ m, W 0 m σ H1) ∧ ∀ i m σ H, W i m σ H →
 (J.stop i H ∧ D.nx σ H) ∨ (J.go i H ∧ ∃ N : St → Hp → Prop, (∀ σ' H', N σ' H' → ∃ m', m' < m ∧ W (i + 1) m' σ' H') ∧ ∀ x H', J.yld i H x H' → g x σ H' fun σ2 H2 => tb { D with nx := N, ct := N, bk := D.nx } σ2 H2)
def zaX (fp : List Addr) (h : Heap) : List (Addr × Obj) := fp.filterMap fun b => (h.get? b).map fun o => (b, o)
theorem zaB {fp : List Addr} {h : Heap} {b : Addr} {o : Obj} (hb : b ∈ fp) (e : h.get? b = some o) : (b, o) ∈ zaX fp h := List.mem_filterMap.mpr ⟨b, hb, by rw [e]; rfl⟩
theorem zd1 {fp : List Addr} {h : Heap} {p : Addr × Obj} (hp : p ∈ zaX fp h) : p.1 ∈ fp ∧ h.get? p.1 = some p.2 := by
 obtain ⟨b, hb, e⟩ := List.mem_filterMap.mp hp
 cases q : h.get? b with
 | none => rw [q] at e; cases e
 | some o =>
  rw [q] at e
  have e' : (b, o) = p := Option.some.inj e
  subst e'
  exact ⟨hb, q⟩
theorem Inv.pinned {pins : List (Addr × Obj)} {σ : St} {H : Hp} {s : Shared} {fp : List Addr} (I : Inv X pins σ H s) (hf : ∀ b ∈ fp, FpOk X pins H b) (ho : ∀ b ∈ fp, ∃ o, s.heap.get? b = some o ∧ ∀ v, o.data ≠ .cell v) : Inv X (pins ++ zaX fp s.heap) σ H s :=
 I.pins_of fun p hp => (List.mem_append.mp hp).elim (fun z => I.pin p (List.mem_append_right _ z)) fun z => by
  obtain ⟨hb, e⟩ := zd1 z
  obtain ⟨f0, f1, f2, _⟩ := hf p.1 hb
  obtain ⟨o, e', d⟩ := ho p.1 hb
  rw [e] at e'; cases e'
  exact ⟨e, f0, f1, f2, d⟩
theorem Inv.unpinned {pins pl : List (Addr × Obj)} {σ : St} {H : Hp} {s : Shared} (I : Inv X (pins ++ pl) σ H s) : Inv X pins σ H s := I.pins_of fun p hp => I.pin p (List.mem_append_right _ (List.mem_append_left _ hp))
theorem zce {iter : Expr} {body : List Stmt} {wi : TI} {g : TG} {tb : TS} {pos : Pos} (hp : PassesOwn (model X.prog X.w) X.A X.env X.xe) (hc : X.calm = true) (hi : PI X tg iter wi) (hg : PG X tg g) (hb : PSs X body tb)
 (hs : ∀ x, foldedSetIterable iter X.env x = pure x := by intro _; rfl) : PS X (.For tg iter body [] pos) (tFor wi g tb) := by
 intro pins s σ H D I h
 refine wpAny_For (thn (hi pins s σ H _ I h) fun v s1 h1 => thn h1 fun itv s2 h2 => ?_) hs
 obtain ⟨it, fp, tn, J, H2, e, I2, T, st2, f2, W, ⟨m0, w0⟩, turn⟩ := h2
 subst e
 have stat : ∀ {H' : Hp}, (∀ b ∈ fp, H' b = none) → ∀ b ∈ fp, FpOk X pins H' b := fun hn b hb => ⟨hn b hb, (f2 b hb).2⟩
 refine codeAny_forLoop_any (fun n s' => ∃ i σ' H', Inv X pins σ' H' s' ∧ tn i s'.heap ∧ (∀ b ∈ fp, H' b = none) ∧ W i n σ' H') ?_ m0 ⟨0, σ, H2, I2, st2, fun b hb => (f2 b hb).1, w0⟩
 rintro n s3 ⟨i, σ3, H3, I3, st3, fr3, w3⟩
 rcases turn i n σ3 H3 w3 with ⟨stop, qn⟩ | ⟨go, N, hN, step⟩
 · refine wpAny_passesOwn hp (thn (T.done X rfl rfl rfl hc i pins s3 σ3 H3 X.xe I3 (stat fr3) st3 stop) fun r s4 ⟨hr, I4⟩ => ?_)
   subst hr
   exact wpAny_execs_nil ⟨σ3, H3, I4, qn⟩
 · refine wpAny_passesOwn hp (thn (T.item X rfl rfl rfl hc i pins s3 σ3 H3 X.xe I3 (stat fr3) st3 go) fun r s4 ⟨u, hr, h4⟩ => ?_)
   subst hr
   refine wpAny_passesOwn hp (thn h4 fun _ s5 ⟨x, H5, I5, r5, y5, st5, fr5⟩ => ?_)
   have I5' := I5.pinned (stat fr5) (T.obj _ _ st5)
   refine wpAny_passesOwn hp (thn (hg _ s5 σ3 H5 x u _ I5' r5 (step x H5 y5)) fun _ s6 ⟨σ6, H6, I6, q6⟩ => ?_)
   refine wpAny_passesOwn hp (thn (hb _ s6 σ6 H6 _ I6 q6) fun f s7 q7 => ?_)
   have again : ∀ {σ7 : St} {H7 : Hp}, Inv X (pins ++ zaX fp s5.heap) σ7 H7 s7 → N σ7 H7 → ∃ m, m < n ∧ ∃ i σ' H', Inv X pins σ' H' s7 ∧ tn i s7.heap ∧ (∀ b ∈ fp, H' b = none) ∧ W i m σ' H' := fun {σ7 H7} I7 n7 => by
    obtain ⟨m', hm, w7⟩ := hN σ7 H7 n7
    refine ⟨m', hm, i + 1, σ7, H7, I7.unpinned, T.keep _ _ _ st5 fun b hb o e => (I7.pin (b, o) (List.mem_append_right _ (List.mem_append_right _ (zaB hb e)))).1, fun b hb => ?_, w7⟩
    obtain ⟨o, e, d⟩ := T.obj _ _ st5 b hb
    exact (I7.pin (b, o) (List.mem_append_right _ (List.mem_append_right _ (zaB hb e)))).2.1
   cases f with
   | next => obtain ⟨σ7, H7, I7, n7⟩ := q7; exact again I7 n7
   | cont => obtain ⟨σ7, H7, I7, n7⟩ := q7; exact again I7 n7
   | brk => obtain ⟨σ7, H7, I7, q7⟩ := q7; exact ⟨σ7, H7, I7.unpinned, q7⟩
   | ret v => obtain ⟨x7, σ7, H7, I7, r7, q7⟩ := q7; exact ⟨x7, σ7, H7, I7.unpinned, r7, q7⟩
end
theorem zcD {K : PySem.W.Frag} {a : Addr} {xs : List V} {g : TG} {tb : TS} {D : Ends} {σ : St} {H : Hp} (Pv : Nat → St → Hp → Prop) (h0 : Pv 0 σ H) (hl : ∀ i σ H, i ≤ xs.length → Pv i σ H → SqL K H a xs)
 (hs : ∀ i x σ H, xs[i]? = some x → Pv i σ H → g x σ H fun σ2 H2 => tb { D with nx := Pv (i + 1), ct := Pv (i + 1), bk := D.nx } σ2 H2) (hd : ∀ σ H, Pv xs.length σ H → D.nx σ H) :
 ∃ W : Nat → Nat → St → Hp → Prop, (∃ m, W 0 m σ H) ∧ ∀ i m σ H, W i m σ H →
  ((Itl K a).stop i H ∧ D.nx σ H) ∨ ((Itl K a).go i H ∧ ∃ N : St → Hp → Prop, (∀ σ' H', N σ' H' → ∃ m', m' < m ∧ W (i + 1) m' σ' H') ∧ ∀ x H', (Itl K a).yld i H x H' → g x σ H' fun σ2 H2 => tb { D with nx := N, ct := N, bk := D.nx } σ2 H2) := by
 refine ⟨fun i m σ H => m = xs.length - i ∧ i ≤ xs.length ∧ Pv i σ H, ⟨xs.length, by simp, Nat.zero_le _, h0⟩, ?_⟩
 rintro i m σ H ⟨rfl, hi, p⟩
 have q := hl i σ H hi p
 by_cases hlt : i < xs.length
 · refine .inr ⟨⟨xs, xs[i], q, by simp [hlt]⟩, Pv (i + 1), fun σ' H' p' => ⟨xs.length - (i + 1), by omega, rfl, hlt, p'⟩, fun x H' y => ?_⟩
   obtain ⟨e, y⟩ := y
   subst e
   exact hs i x σ _ (y xs q) p
 · have e : i = xs.length := by omega
   subst e
   exact .inl ⟨⟨xs, q, Nat.le_refl _⟩, hd σ H p⟩
theorem zgX {K : PySem.W.Frag} {a : Addr} {xs : List V} {g : TG} {tb : TS} {D : Ends} {σ : St} {H : Hp} (Pv : Nat → St → Hp → Prop) (h0 : Pv 0 σ H) (hl : ∀ i σ H, i ≤ xs.length → Pv i σ H → SqT K H a xs)
 (hs : ∀ i x σ H, xs[i]? = some x → Pv i σ H → g x σ H fun σ2 H2 => tb { D with nx := Pv (i + 1), ct := Pv (i + 1), bk := D.nx } σ2 H2) (hd : ∀ σ H, Pv xs.length σ H → D.nx σ H) :
 ∃ W : Nat → Nat → St → Hp → Prop, (∃ m, W 0 m σ H) ∧ ∀ i m σ H, W i m σ H →
  ((Itt K a).stop i H ∧ D.nx σ H) ∨ ((Itt K a).go i H ∧ ∃ N : St → Hp → Prop, (∀ σ' H', N σ' H' → ∃ m', m' < m ∧ W (i + 1) m' σ' H') ∧ ∀ x H', (Itt K a).yld i H x H' → g x σ H' fun σ2 H2 => tb { D with nx := N, ct := N, bk := D.nx } σ2 H2) := by
 refine ⟨fun i m σ H => m = xs.length - i ∧ i ≤ xs.length ∧ Pv i σ H, ⟨xs.length, by simp, Nat.zero_le _, h0⟩, ?_⟩
 rintro i m σ H ⟨rfl, hi, p⟩
 have q := hl i σ H hi p
 by_cases hlt : i < xs.length
 · refine .inr ⟨⟨xs, xs[i], q, by simp [hlt]⟩, Pv (i + 1), fun σ' H' p' => ⟨xs.length - (i + 1), by omega, rfl, hlt, p'⟩, fun x H' y => ?_⟩
   obtain ⟨e, y⟩ := y
   subst e
   exact hs i x σ _ (y xs q) p
 · have e : i = xs.length := by omega
   subst e
   exact .inl ⟨⟨xs, q, Nat.le_refl _⟩, hd σ H p⟩
theorem zfR {lo : Int} {n : Nat} {g : TG} {tb : TS} {D : Ends} {σ : St} {H : Hp} (Pv : Nat → St → Hp → Prop) (h0 : Pv 0 σ H)
 (hs : ∀ i σ H, i < n → Pv i σ H → g (.int (lo + i)) σ H fun σ2 H2 => tb { D with nx := Pv (i + 1), ct := Pv (i + 1), bk := D.nx } σ2 H2) (hd : ∀ σ H, Pv n σ H → D.nx σ H) :
 ∃ W : Nat → Nat → St → Hp → Prop, (∃ m, W 0 m σ H) ∧ ∀ i m σ H, W i m σ H →
  ((Itr lo n).stop i H ∧ D.nx σ H) ∨ ((Itr lo n).go i H ∧ ∃ N : St → Hp → Prop, (∀ σ' H', N σ' H' → ∃ m', m' < m ∧ W (i + 1) m' σ' H') ∧ ∀ x H', (Itr lo n).yld i H x H' → g x σ H' fun σ2 H2 => tb { D with nx := N, ct := N, bk := D.nx } σ2 H2) := by
 refine ⟨fun i m σ H => m = n - i ∧ i ≤ n ∧ Pv i σ H, ⟨n, by simp, Nat.zero_le _, h0⟩, ?_⟩
 rintro i m σ H ⟨rfl, hi, p⟩
 by_cases hlt : i < n
 · refine .inr ⟨hlt, Pv (i + 1), fun σ' H' p' => ⟨n - (i + 1), by omega, rfl, hlt, p'⟩, fun x H' y => ?_⟩
   obtain ⟨e, y⟩ := y
   subst e y
   exact hs i σ _ hlt p
 · have e : i = n := by omega
   subst e
   exact .inl ⟨Nat.le_refl _, hd σ H p⟩
abbrev R2 := V → V → Hp → VK → Prop
def OpR (X : Cx) (f : Value → Value → Sem Value) (r : R2) : Prop :=
 ∀ (pins : List (Addr × Obj)) (s : Shared) (σ : St) (H : Hp) (x y : V) (v u : Value) (Q : VK), Inv X pins σ H s → RelV x v → RelV y u → r x y H Q →
  wpAny (model X.prog X.w) X.A (f v u) (EP X pins σ Q) X.xe s
def zcQ (X : Cx) (f : Value) (r : List V → Hp → VK → Prop) : Prop :=
 ∀ (pins : List (Addr × Obj)) (s : Shared) (σ : St) (H : Hp) (xs : List V) (us : List Value) (Q : VK), Inv X pins σ H s → Vals xs us → r xs H Q →
  wpAny (model X.prog X.w) X.A (call f us) (EP X pins σ Q) X.xe s
def TruR (X : Cx) (r : V → Hp → (Bool → Hp → Prop) → Prop) : Prop :=
 ∀ (pins : List (Addr × Obj)) (s : Shared) (σ : St) (H : Hp) (x : V) (v : Value) (Q : Bool → Hp → Prop), Inv X pins σ H s → RelV x v → r x H Q →
  wpAny (model X.prog X.w) X.A (truthy v) (TP X pins σ Q) X.xe s
def tOp (r : R2) (ta tb : TE) : TE := fun σ H Q => ta σ H fun x H1 => tb σ H1 fun y H2 => r x y H2 Q
def rI (C : Int → Int → Prop) (g : Int → Int → V) : R2 := fun x y H Q => ∃ i j, x = .int i ∧ y = .int j ∧ C i j ∧ Q (g i j) H
def rI0 (g : Int → Int → V) : R2 := fun x y H Q => ∃ i j, x = .int i ∧ y = .int j ∧ Q (g i j) H
section
variable {X : Cx} {a b c : Expr} {ta tb tc : TE} {pos : Pos}
theorem binT (ha : PE X a ta) (hb : PE X b tb) {pins : List (Addr × Obj)} {s : Shared} {σ : St} {H : Hp} {R : V → V → Hp → Prop} (I : Inv X pins σ H s)
 (h : ta σ H fun x H1 => tb σ H1 fun y H2 => R x y H2) {Q : Value → Shared → Prop} {f : Value → Value → Sem Value}
 (hf : ∀ v u s2 x y H2, Inv X pins σ H2 s2 → RelV x v → RelV y u → R x y H2 → wpAny (model X.prog X.w) X.A (f v u) Q X.xe s2) :
 wpAny (model X.prog X.w) X.A (eval a X.env) (fun v s₁ => wpAny (model X.prog X.w) X.A (eval b X.env) (fun u s₂ => wpAny (model X.prog X.w) X.A (f v u) Q X.xe s₂) X.xe s₁) X.xe s := by
 refine thn (ha pins s σ H _ I h) fun v s1 ⟨x, H1, I1, r1, q1⟩ => ?_
 refine thn (hb pins s1 σ H1 _ I1 q1) fun u s2 ⟨y, H2, I2, r2, q2⟩ => ?_
 exact hf v u s2 x y H2 I2 r1 r2 q2
theorem zar {op : Operator} {r : R2} (ho : OpR X (binaryOp op) r) (ha : PE X a ta) (hb : PE X b tb) : PE X (.BinOp a op b pos) (tOp r ta tb) := by
 intro pins s σ H Q I h
 exact wpAny_BinOp (binT ha hb I h fun v u s2 x y H2 I2 rx ry q => ho pins s2 σ H2 x y v u Q I2 rx ry q)
theorem opI {f : Value → Value → Sem Value} {C : Int → Int → Prop} {g : Int → Int → Int}
 (rule : ∀ (i j : Int) (t u : Tok) (s : Shared) (Q : Value → Shared → Prop) (E : Value → Shared → Prop), C i j → Q (.int (g i j) s.toks) { s with toks := s.toks + 1 } → wpAny (model X.prog X.w) X.A (f (.int i t) (.int j u)) Q E s) :
 OpR X f (rI C fun i j => .int (g i j)) := by
 intro pins s σ H x y v u Q I rx ry h
 obtain ⟨i, j, rfl, rfl, hc, q⟩ := h
 obtain ⟨t, rfl⟩ := rx
 obtain ⟨t', rfl⟩ := ry
 exact rule i j t t' s _ _ hc ⟨.int (g i j), H, I.tok _, ⟨_, rfl⟩, q⟩
theorem opI0 {f : Value → Value → Sem Value} {g : Int → Int → Int}
 (rule : ∀ (i j : Int) (t u : Tok) (s : Shared) (Q : Value → Shared → Prop) (E : Value → Shared → Prop), Q (.int (g i j) s.toks) { s with toks := s.toks + 1 } → wpAny (model X.prog X.w) X.A (f (.int i t) (.int j u)) Q E s) :
 OpR X f (rI0 fun i j => .int (g i j)) := by
 intro pins s σ H x y v u Q I rx ry h
 obtain ⟨i, j, rfl, rfl, q⟩ := h
 obtain ⟨t, rfl⟩ := rx
 obtain ⟨t', rfl⟩ := ry
 exact rule i j t t' s _ _ ⟨.int (g i j), H, I.tok _, ⟨_, rfl⟩, q⟩
theorem opB0 {f : Value → Value → Sem Value} {g : Int → Int → Bool}
 (rule : ∀ (i j : Int) (t u : Tok) (s : Shared) (Q : Value → Shared → Prop) (E : Value → Shared → Prop), Q (.bool (g i j)) s → wpAny (model X.prog X.w) X.A (f (.int i t) (.int j u)) Q E s) :
 OpR X f (rI0 fun i j => .bl (g i j)) := by
 intro pins s σ H x y v u Q I rx ry h
 obtain ⟨i, j, rfl, rfl, q⟩ := h
 obtain ⟨t, rfl⟩ := rx
 obtain ⟨t', rfl⟩ := ry
 exact rule i j t t' s _ _ ⟨.bl (g i j), H, I, rfl, q⟩
def CMul (i j : Int) : Prop := (-(2 ^ 64) < i ∧ i < 2 ^ 64) ∨ (-(2 ^ 64) < j ∧ j < 2 ^ 64)
theorem CMul.ok {i j : Int} (h : CMul i j) : IntMulOk i j := by
 rcases h with ⟨h1, h2⟩ | ⟨h1, h2⟩
 · exact .of_left (intBits_le_64 h1 h2)
 · exact .of_right (intBits_le_64 h1 h2)
theorem zaL : OpR X (binaryOp .Add) (rI0 fun i j => .int (i + j)) := opI0 fun _ _ _ _ _ _ _ q => add_int q
theorem zdu : OpR X (binaryOp .Sub) (rI0 fun i j => .int (i - j)) := opI0 fun _ _ _ _ _ _ _ q => sub_int q
theorem zc2 : OpR X (binaryOp .Mult) (rI CMul fun i j => .int (i * j)) := opI fun _ _ _ _ _ _ _ hc q => mul_int q hc.ok
theorem zc3 : OpR X (binaryOp .Mod) (rI (fun _ j => 0 < j) fun i j => .int (i % j)) := opI fun i j _ _ _ _ _ hc q => by
 have h1 : (0 : Int) < j := hc
 exact mod_int' (by omega) (by rw [Int.fmod_eq_emod_of_nonneg i (by omega)]; exact q)
end
def scal : V → V → Bool
 | .non, .non => true | .non, .int _ => true | .int _, .non => true | .non, .bl _ => true | .bl _, .non => true | .non, .str _ => true | .str _, .non => true
 | .int _, .int _ => true | .bl _, .bl _ => true | .str _, .str _ => true | .byt _, .byt _ => true
 | .int _, .str _ => true | .str _, .int _ => true | .bl _, .str _ => true | .str _, .bl _ => true
 | _, _ => false
def rEq : R2 := fun x y H Q => scal x y = true ∧ Q (.bl (decide (x = y))) H
def rNe : R2 := fun x y H Q => scal x y = true ∧ Q (.bl (!decide (x = y))) H
theorem zjh {i j : Int} : decide (V.int i = V.int j) = (i == j) := by
 rw [Bool.eq_iff_iff]
 simp
theorem zks {i j : Bool} : decide (V.bl i = V.bl j) = (i == j) := by
 rw [Bool.eq_iff_iff]
 simp
theorem zjg {i j : Str} : decide (V.str i = V.str j) = (i == j) := by
 rw [Bool.eq_iff_iff]
 simp
theorem zji {i j : Array UInt8} : decide (V.byt i = V.byt j) = (i.toList == j.toList) := by
 rw [Bool.eq_iff_iff]
 cases i
 cases j
 simp
section
variable {X : Cx} {a b c : Expr} {ta tb tc : TE} {pos : Pos}
theorem zaF {pins : List (Addr × Obj)} {σ : St} {H : Hp} {s : Shared} {Q : VK} {k k' : Bool} (I : Inv X pins σ H s) (q : Q (.bl k) H) (e : k = k') : EP X pins σ Q (.bool k') s := by
 subst e
 exact ⟨.bl k, H, I, rfl, q⟩
theorem zdU : OpR X (compareOp .Eq) rEq := by
 intro pins s σ H x y v u Q I rx ry h
 obtain ⟨hs, q⟩ := h
 cases x with
 | non =>
  cases rx
  cases y with
  | non => cases ry; exact PySem.EqNone.eq_none_none (zaF I q (by simp))
  | bl j => cases ry; exact PySem.EqNone.eq_none_bool (zaF I q (by simp))
  | int j => obtain ⟨t', rfl⟩ := ry; exact PySem.EqNone.eq_none_int (zaF I q (by simp))
  | str j => obtain ⟨t', rfl⟩ := ry; exact PySem.EqNone.eq_none_str (zaF I q (by simp))
  | _ => exact absurd (show false = true from hs) Bool.false_ne_true
 | bl i =>
  cases rx
  cases y with
  | non => cases ry; exact PySem.EqNone.eq_bool_none (zaF I q (by simp))
  | bl j => cases ry; exact eq_bool (zaF I q zks)
  | str j => obtain ⟨t', rfl⟩ := ry; exact PySem.EqMixed.eq_bool_str (zaF I q (by simp))
  | _ => exact absurd (show false = true from hs) Bool.false_ne_true
 | int i =>
  obtain ⟨t, rfl⟩ := rx
  cases y with
  | non => cases ry; exact PySem.EqNone.eq_int_none (zaF I q (by simp))
  | int j => obtain ⟨t', rfl⟩ := ry; exact eq_int (zaF I q zjh)
  | str j => obtain ⟨t', rfl⟩ := ry; exact PySem.EqMixed.eq_int_str (zaF I q (by simp))
  | _ => exact absurd (show false = true from hs) Bool.false_ne_true
 | str i =>
  obtain ⟨t, rfl⟩ := rx
  cases y with
  | non => cases ry; exact PySem.EqNone.eq_str_none (zaF I q (by simp))
  | bl j => cases ry; exact PySem.EqMixed.eq_str_bool (zaF I q (by simp))
  | int j => obtain ⟨t', rfl⟩ := ry; exact PySem.EqMixed.eq_str_int (zaF I q (by simp))
  | str j => obtain ⟨t', rfl⟩ := ry; exact eq_str (zaF I q zjg)
  | _ => exact absurd (show false = true from hs) Bool.false_ne_true
 | byt i =>
  obtain ⟨t, rfl⟩ := rx
  cases y with
  | byt j => obtain ⟨t', rfl⟩ := ry; exact PySem.W.eq_bytes (zaF I q zji)
  | _ => exact absurd (show false = true from hs) Bool.false_ne_true
 | _ => cases y <;> exact absurd (show false = true from hs) Bool.false_ne_true
theorem zfB : OpR X (compareOp .NotEq) rNe := by
 intro pins s σ H x y v u Q I rx ry h
 obtain ⟨hs, q⟩ := h
 cases x with
 | non =>
  cases rx
  cases y with
  | non => cases ry; exact PySem.EqNone.ne_none_none (zaF I q (by simp))
  | bl j => cases ry; exact PySem.EqNone.ne_none_bool (zaF I q (by simp))
  | int j => obtain ⟨t', rfl⟩ := ry; exact PySem.EqNone.ne_none_int (zaF I q (by simp))
  | str j => obtain ⟨t', rfl⟩ := ry; exact PySem.EqNone.ne_none_str (zaF I q (by simp))
  | _ => exact absurd (show false = true from hs) Bool.false_ne_true
 | bl i =>
  cases rx
  cases y with
  | non => cases ry; exact PySem.EqNone.ne_bool_none (zaF I q (by simp))
  | bl j => cases ry; exact ne_bool (zaF I q (congrArg not zks))
  | str j => obtain ⟨t', rfl⟩ := ry; exact PySem.EqMixed.ne_bool_str (zaF I q (by simp))
  | _ => exact absurd (show false = true from hs) Bool.false_ne_true
 | int i =>
  obtain ⟨t, rfl⟩ := rx
  cases y with
  | non => cases ry; exact PySem.EqNone.ne_int_none (zaF I q (by simp))
  | int j => obtain ⟨t', rfl⟩ := ry; exact ne_int (zaF I q (congrArg not zjh))
  | str j => obtain ⟨t', rfl⟩ := ry; exact PySem.EqMixed.ne_int_str (zaF I q (by simp))
  | _ => exact absurd (show false = true from hs) Bool.false_ne_true
 | str i =>
  obtain ⟨t, rfl⟩ := rx
  cases y with
  | non => cases ry; exact PySem.EqNone.ne_str_none (zaF I q (by simp))
  | bl j => cases ry; exact PySem.EqMixed.ne_str_bool (zaF I q (by simp))
  | int j => obtain ⟨t', rfl⟩ := ry; exact PySem.EqMixed.ne_str_int (zaF I q (by simp))
  | str j => obtain ⟨t', rfl⟩ := ry; exact ne_str (zaF I q (congrArg not zjg))
  | _ => exact absurd (show false = true from hs) Bool.false_ne_true
 | byt i =>
  obtain ⟨t, rfl⟩ := rx
  cases y with
  | byt j => obtain ⟨t', rfl⟩ := ry; exact PySem.W.ne_bytes (zaF I q (congrArg not zji))
  | _ => exact absurd (show false = true from hs) Bool.false_ne_true
 | _ => cases y <;> exact absurd (show false = true from hs) Bool.false_ne_true
theorem zjQ : OpR X (compareOp .Lt) (rI0 fun i j => .bl (decide (i < j))) := opB0 fun _ _ _ _ _ _ _ q => lt_int q
theorem zkU : OpR X (compareOp .LtE) (rI0 fun i j => .bl (decide (i ≤ j))) := opB0 fun _ _ _ _ _ _ _ q => le_int q
theorem zgx : OpR X (compareOp .Gt) (rI0 fun i j => .bl (decide (j < i))) := opB0 fun _ _ _ _ _ _ _ q => gt_int q
theorem zl8 : OpR X (compareOp .GtE) (rI0 fun i j => .bl (decide (j ≤ i))) := opB0 fun _ _ _ _ _ _ _ q => ge_int q
theorem ziD : OpR X (compareOp .Lt) (fun x y H Q => ∃ i j, x = .str i ∧ y = .str j ∧ Q (.bl (decide (i.cps.toList < j.cps.toList))) H) := by
 intro pins s σ H x y v u Q I rx ry h
 obtain ⟨i, j, rfl, rfl, q⟩ := h
 obtain ⟨t, rfl⟩ := rx
 obtain ⟨t', rfl⟩ := ry
 exact lt_str (zaF I q rfl)
theorem zaA (b : Expr) {op : CmpOp} (h : op ≠ .In := by decide) (h2 : op ≠ .NotIn := by decide) : behindInMarks op b = false := by
 have e1 : (op == CmpOp.In) = false := by cases op <;> first | rfl | exact absurd rfl h
 have e2 : (op == CmpOp.NotIn) = false := by cases op <;> first | rfl | exact absurd rfl h2
 cases b <;> simp [behindInMarks, e1, e2]
theorem zcM {op : CmpOp} {r : R2} (ho : OpR X (compareOp op) r) (ha : PE X a ta) (hb : PE X b tb) (hm : behindInMarks op b = false) : PE X (.Compare a [op] [b] pos) (tOp r ta tb) := by
 intro pins s σ H Q I h
 exact wpAny_Compare1 (binT ha hb I h fun v u s2 x y H2 I2 rx ry q => ho pins s2 σ H2 x y v u Q I2 rx ry q) hm
def zld (t : TE) : TT := fun σ H Q => t σ H fun x H' => ∃ k, x = .bl k ∧ Q k H'
theorem zav {op : CmpOp} {r : R2} (ho : OpR X (compareOp op) r) (ha : PE X a ta) (hb : PE X b tb) (hm : behindInMarks op b = false) : PT X (.Compare a [op] [b] pos) (zld (tOp r ta tb)) := by
 intro pins s σ H Q I h
 refine wpAny_isTrue_Compare1 (thn (ha pins s σ H _ I h) fun v s1 ⟨x, H1, I1, r1, q1⟩ => thn (hb pins s1 σ H1 _ I1 q1) fun u s2 ⟨y, H2, I2, r2, q2⟩ =>
  thn (ho pins s2 σ H2 x y v u _ I2 r1 r2 q2) fun c s3 ⟨z, H3, I3, r3, k, e, q3⟩ => ?_) hm
 subst e
 cases r3
 exact wpAny_truthy_bool ⟨H3, I3, q3⟩
def zkf (r r' : R2) (ta tb tc : TE) : TE := fun σ H Q => ta σ H fun x H1 => tb σ H1 fun y H2 => r x y H2 fun z H3 => ∃ k, z = .bl k ∧
 (if k = true then tc σ H3 fun w' H4 => r' y w' H4 Q else Q (.bl false) H3)
theorem zjO {op op' : CmpOp} {r r' : R2} (ho : OpR X (compareOp op) r) (ho' : OpR X (compareOp op') r') (ha : PE X a ta) (hb : PE X b tb) (hc : PE X c tc)
 (hm : lastMarks [op, op'] [b, c] = false := by with_unfolding_all rfl) : PE X (.Compare a [op, op'] [b, c] pos) (zkf r r' ta tb tc) := by
 intro pins s σ H Q I h
 refine Compare_chain (thn (ha pins s σ H _ I h) fun v s1 ⟨x, H1, I1, r1, q1⟩ => chain_link (thn (hb pins s1 σ H1 _ I1 q1) fun u s2 ⟨y, H2, I2, r2, q2⟩ =>
  thn (ho pins s2 σ H2 x y v u _ I2 r1 r2 q2) fun d s3 ⟨z, H3, I3, r3, k, e, q3⟩ => ?_)) hm
 subst e
 cases r3
 refine wpAny_truthy_bool ?_
 cases k with
 | false => exact ite_ff ⟨.bl false, H3, I3, rfl, q3⟩
 | true => exact ite_tt (chain_last (thn (hc pins s3 σ H3 _ I3 q3) fun w' s4 ⟨z', H4, I4, r4, q4⟩ => ho' pins s4 σ H4 y z' u w' Q I4 r2 r4 q4))
theorem zjJ {op op' : CmpOp} {r r' : R2} (ho : OpR X (compareOp op) r) (ho' : OpR X (compareOp op') r') (ha : PE X a ta) (hb : PE X b tb) (hc : PE X c tc)
 (hm : lastMarks [op, op'] [b, c] = false := by with_unfolding_all rfl) : PT X (.Compare a [op, op'] [b, c] pos) (zld (zkf r r' ta tb tc)) := by
 intro pins s σ H Q I h
 refine isTrue_chain (thn (ha pins s σ H _ I h) fun v s1 ⟨x, H1, I1, r1, q1⟩ => test_link (thn (hb pins s1 σ H1 _ I1 q1) fun u s2 ⟨y, H2, I2, r2, q2⟩ =>
  thn (ho pins s2 σ H2 x y v u _ I2 r1 r2 q2) fun d s3 ⟨z, H3, I3, r3, k, e, q3⟩ => ?_)) hm
 subst e
 cases r3
 refine wpAny_truthy_bool ?_
 cases k with
 | false =>
  obtain ⟨k', e', q'⟩ := q3
  cases e'
  exact ite_ff ⟨H3, I3, q'⟩
 | true =>
  refine ite_tt (test_last (thn (hc pins s3 σ H3 _ I3 q3) fun w' s4 ⟨z', H4, I4, r4, q4⟩ => thn (ho' pins s4 σ H4 y z' u w' _ I4 r2 r4 q4) fun d' s5 ⟨z2, H5, I5, r5, k2, e2, q5⟩ => ?_))
  subst e2
  cases r5
  exact wpAny_truthy_bool ⟨H5, I5, q5⟩
def TruV (K : PySem.W.Frag) (x : V) (H : Hp) (k : Bool) : Prop :=
 match x with
 | .non => k = false
 | .bl b => k = b
 | .int i => k = (i != 0)
 | .str y => y.length ≤ sizeLine ∧ k = ((y.length : Int) != 0)
 | .byt y => y.size ≤ sizeLine ∧ k = ((y.size : Int) != 0)
 | .ref p => (∃ xs, SqL K H p xs ∧ k = !xs.isEmpty) ∨ (∃ xs, SqT K H p xs ∧ k = !xs.isEmpty) ∨ ∃ kvs, H p = some (.dK kvs) ∧ k = !kvs.isEmpty
 | _ => False
theorem zhZ {κ : Type} {kvs : List (κ × V)} {vs : List (κ × Value)} (r : KV kvs vs) : (!vs.isEmpty) = !kvs.isEmpty := by
 cases r <;> rfl
theorem zem {xs : List V} {its : List Value} (r : Vals xs its) : (!its.toArray.isEmpty) = !xs.isEmpty := by
 cases r <;> simp
theorem zd3 : (sizeLine : Nat) < 2 ^ 63 := by rw [sizeLine_eq]; decide
theorem zlc : TruR X (fun x H Q => ∃ k, TruV X.K x H k ∧ Q k H) := by
 intro pins s σ H x v Q I rx h
 obtain ⟨k, e, q⟩ := h
 have hl := zd3
 have hs : sizeLine = 16777216 := sizeLine_eq
 cases x with
 | non =>
  cases rx
  have e' : k = false := e
  subst e'
  exact truthy_none ⟨H, I, q⟩
 | bl b =>
  cases rx
  have e' : k = b := e
  subst e'
  exact wpAny_truthy_bool ⟨H, I, q⟩
 | int i =>
  obtain ⟨t, rfl⟩ := rx
  have e' : k = (i != 0) := e
  subst e'
  exact PySem.P.truthy_int ⟨H, I, q⟩
 | str y =>
  obtain ⟨t, rfl⟩ := rx
  obtain ⟨hy, e'⟩ : y.length ≤ sizeLine ∧ k = ((y.length : Int) != 0) := e
  subst e'
  exact PySem.P.truthy_str (by omega) ⟨H, I.tok _, q⟩
 | byt y =>
  obtain ⟨t, rfl⟩ := rx
  obtain ⟨hy, e'⟩ : y.size ≤ sizeLine ∧ k = ((y.size : Int) != 0) := e
  subst e'
  exact PySem.W.truthy_bytes (by omega) ⟨H, I.tok _, q⟩
 | ref p =>
  cases rx
  have e' : (∃ xs, SqL X.K H p xs ∧ k = !xs.isEmpty) ∨ (∃ xs, SqT X.K H p xs ∧ k = !xs.isEmpty) ∨ ∃ kvs, H p = some (.dK kvs) ∧ k = !kvs.isEmpty := e
  rcases e' with ⟨xs, hx, e'⟩ | ⟨xs, hx, e'⟩ | ⟨kvs, hx, e'⟩
  · subst e'
    obtain ⟨its, r, pl, hz⟩ := I.list hx
    have hlen := r.length
    exact wpAny_truthy_list pl.isList (by simp only [List.size_toArray]; omega) ⟨H, I.tok _, by rw [zem r]; exact q⟩
  · subst e'
    obtain ⟨its, r, pl, hz⟩ := I.tuple hx
    have hlen := r.length
    exact truthy_tuple pl (by simp only [List.size_toArray]; omega) ⟨H, I.tok _, by rw [zem r]; exact q⟩
  · subst e'
    obtain ⟨hz, hS, vs, r, m⟩ : kvs.length ≤ sizeLine ∧ (p == sysModules) = false ∧ ∃ vs, KV kvs vs ∧ s.heap.DictOf (zaE X.prog X.w) p vs := I.hok p _ hx
    have hlen : kvs.length = vs.length := Paired.length r
    exact wpAny_truthy_dict hS m (by omega) ⟨H, I.tok _, by rw [zhZ r]; exact q⟩
 | _ => exact (show False from e).elim
theorem zjI (ha : PE X a ta) (he : ∀ whole, isTrue a X.env whole = (do let v ← whole; standAt a.pos; holding [v] (truthy v))) :
 PT X a (fun σ H Q => ta σ H fun x H' => ∃ k, TruV X.K x H' k ∧ Q k H') := by
 intro pins s σ H Q I h
 exact isTrue_plain (thn (ha pins s σ H _ I h) fun v s1 ⟨x, H1, I1, r1, q1⟩ => zlc pins s1 σ H1 x v Q I1 r1 q1) (he _)
theorem zcB : OpR X (binaryOp .Add) (fun x y H Q => ∃ i j, x = .str i ∧ y = .str j ∧ i.length + j.length ≤ sizeLine ∧ Q (.str (i ++ j)) H) := by
 intro pins s σ H x y v u Q I rx ry h
 obtain ⟨i, j, rfl, rfl, hz, q⟩ := h
 obtain ⟨t, rfl⟩ := rx
 obtain ⟨t', rfl⟩ := ry
 exact add_str (fun t' tk => ⟨.str (i ++ j), H, I.tok _, ⟨_, rfl⟩, q⟩) hz
theorem zcR {x : V} {us : List Value} (r : Vals [x] us) : ∃ u, us = [u] ∧ RelV x u := by
 cases r with
 | cons r1 r2 => cases r2; exact ⟨_, rfl, r1⟩
theorem zhw {x y : V} {us : List Value} (r : Vals [x, y] us) : ∃ u w', us = [u, w'] ∧ RelV x u ∧ RelV y w' := by
 cases r with
 | cons r1 r2 =>
  cases r2 with
  | cons r3 r4 => cases r4; exact ⟨_, _, rfl, r1, r3⟩
theorem ze8 : zcQ X (.builtin "abs") (fun xs H Q => ∃ i, xs = [.int i] ∧ Q (.int (if i < 0 then -i else i)) H) := by
 intro pins s σ H xs us Q I r h
 obtain ⟨i, rfl, q⟩ := h
 obtain ⟨u, rfl, t, rfl⟩ := zcR r
 exact call_abs_int fun u tk => ⟨.int (if i < 0 then -i else i), H, I.tok _, ⟨_, rfl⟩, q⟩
theorem zjr (hc : X.calm = true) : zcQ X (.builtin "max") (fun xs H Q => ∃ i j, xs = [.int i, .int j] ∧ Q (.int (if j > i then j else i)) H) := by
 intro pins s σ H xs us Q I r h
 obtain ⟨i, j, rfl, q⟩ := h
 obtain ⟨u, w', rfl, ⟨t, rfl⟩, ⟨t', rfl⟩⟩ := zhw r
 refine max_two_ints (I.ok.hd hc) fun h' tk k => ⟨_, H, I.kept k, ?_, q⟩
 by_cases hj : j > i
 · rw [if_pos hj, if_pos hj]; exact ⟨_, rfl⟩
 · rw [if_neg hj, if_neg hj]; exact ⟨_, rfl⟩
theorem zjp (hc : X.calm = true) : zcQ X (.builtin "min") (fun xs H Q => ∃ i j, xs = [.int i, .int j] ∧ Q (.int (if j < i then j else i)) H) := by
 intro pins s σ H xs us Q I r h
 obtain ⟨i, j, rfl, q⟩ := h
 obtain ⟨u, w', rfl, ⟨t, rfl⟩, ⟨t', rfl⟩⟩ := zhw r
 refine min_two_ints (I.ok.hd hc) fun h' tk k => ⟨_, H, I.kept k, ?_, q⟩
 by_cases hj : j < i
 · rw [if_pos hj, if_pos hj]; exact ⟨_, rfl⟩
 · rw [if_neg hj, if_neg hj]; exact ⟨_, rfl⟩
end
structure ObjM (h : Heap) (x dx C : Addr) (mA : Str → Option Value) : Prop where
 obj : h.get? x = some (PySem.W.instObj C dx)
 ns : h.Ns1 dx mA
 ne : dx ≠ x
theorem ziM {h : Heap} {dx : Addr} {mA : Str → Option Value} (n : h.Ns1 dx mA) : ∃ od, h.get? dx = some od ∧ ∀ name, PySem.W.lookIn name od = some (mA name) := by
 obtain ⟨o, es, ep, ho, hd, hk, _, hm⟩ := n
 refine ⟨o, ho, fun name => ?_⟩
 have e := hm name
 unfold nsFind findBy at e
 rw [← Array.find?_toList] at e
 unfold PySem.W.lookIn
 rw [hd]
 dsimp only
 split
 · rename_i y q
   rw [q] at e
   exact congrArg some e
 · rename_i q
   rw [q] at e
   have a : es.toList.any (·.refKey) = false := by
    rw [List.any_eq_false]
    intro y hy
    obtain ⟨z, t, hkey⟩ := hk y (Array.mem_toList_iff.mp hy)
    simp [DictEntry.refKey, hkey]
   have a' : ¬ es.toList.any (·.refKey) = true := by rw [a]; exact Bool.false_ne_true
   rw [if_neg a']
   exact congrArg some e
theorem ObjM.look {h : Heap} {x dx C : Addr} {mA : Str → Option Value} (I : ObjM h x dx C mA) : ∃ od, PySem.W.InstAt h x (PySem.W.instObj C dx) C (some od) ∧ ∀ name, PySem.W.lookIn name od = some (mA name) :=
 let ⟨od, ho, hl⟩ := ziM I.ns
 ⟨od, ⟨I.obj, rfl, rfl, ho⟩, hl⟩
section
variable {prog : Program} {w : World} {A : Around} {E : Value → Shared → Prop} {s : Shared} {K : PySem.W.Frag} {x dx C f : Addr} {mA : Str → Option Value} {name : Str} {v : Value}
end
theorem RelO.some_of {v : V} {o : Option Value} (r : RelO (some v) o) : ∃ u, o = some u ∧ RelV v u := by
 cases o with
 | none => exact (show False from r).elim
 | some u => exact ⟨u, rfl, r⟩
section
variable {P : Program} {w : World} {H H' : Hp} {h h' : Heap} {a C dx : Addr} {fs fs' : List (Str × V)}
theorem zk0 (hok : HOk P w H h) (e : H a = some (.ins C dx fs)) : ∃ mA, ObjM h a dx C mA ∧ (∀ f, RelO (fs.lookup f) (mA f)) ∧ PySem.Within mA (fs.map (·.1)) ∧ fs.length ≤ 1000 ∧ H dx = some (.own a) := by
 obtain ⟨d, z, ne, ob, mA, n, r, q⟩ := (show ObjOk P w H h a (.ins C dx fs) from hok a _ e)
 exact ⟨mA, ⟨ob, n, ne⟩, r, q, z, d⟩
end
structure Cls (K : PySem.W.Frag) (C : Addr) : Prop where
 pg : PySem.W.plainGet K C Str.empty = true
 hd : PySem.W.hasDictIn K C = true
 po : PySem.W.plainOver K C = true
 sa : PySem.W.findIn K (.ref C) "__setattr__" = some (some (.builtin "object.__setattr__"))
theorem Cls.get {K : PySem.W.Frag} {C : Addr} (c : Cls K C) (f : Str) : PySem.W.plainGet K C f = true := c.pg
section
variable {X : Cx} {pins : List (Addr × Obj)} {σ : St} {H : Hp} {s : Shared} {a C dx : Addr} {fs : List (Str × V)} {f : Str} {v : V} {A : Around} {E : Value → Shared → Prop}
end
section
variable {X : Cx} {o e value : Expr} {f : Str} {pos pos' tpos : Pos} {ta tv : TE}
end
section
variable {X : Cx} {pins : List (Addr × Obj)} {σ : St} {H : Hp} {s : Shared} {A : Around} {E : Value → Shared → Prop} {Q : Value → Shared → Prop} {c : Value} {b : Bool}
inductive TyOf (K : PySem.W.Frag) (H : Hp) : V → Value → Prop where
 | non : TyOf K H .non (.type "NoneType")
 | bl (x : Bool) : TyOf K H (.bl x) (.type "bool")
 | int (i : Int) : TyOf K H (.int i) (.type "int")
 | str (x : Str) : TyOf K H (.str x) (.type "str")
 | flt (x : UInt64) : TyOf K H (.flt x) (.type "float")
 | lst {a : Addr} {xs : List V} (e : H a = some (.lst xs)) : TyOf K H (.ref a) (.type "list")
 | frz {a : Addr} {o : Obj} {xs : List V} (e : H a = some (.frz o (.lst xs))) : TyOf K H (.ref a) (.type "list")
 | tup {a : Addr} {xs : List V} (e : H a = some (.tup xs)) : TyOf K H (.ref a) (.type "tuple")
 | dK {a : Addr} {kvs : List (Key × V)} (e : H a = some (.dK kvs)) : TyOf K H (.ref a) (.type "dict")
 | dT {a : Addr} {kvs : List (List Key × V)} (e : H a = some (.dT kvs)) : TyOf K H (.ref a) (.type "dict")
 | ins {a C dx : Addr} {fs : List (Str × V)} (e : H a = some (.ins C dx fs)) (cl : Cls K C) (ha : PySem.W.findIn K (.ref C) "__class__" = some (some (.builtin "object.__class__")))
  (hn : PySem.W.specialIn K (.builtin "object.__class__") "__get__" = some (some (.builtin "getset_descriptor.__get__"))) (htk : PySem.W.takesIn K (.builtin "object.__class__") = some true)
  (hm : PySem.W.mroIn K C (.type "object") = some true) : TyOf K H (.ref a) (.ref C)
theorem ziZ {x : V} {u t : Value} (I : Inv X pins σ H s) (rx : RelV x u) (ty : TyOf X.K H x t) (e : PySem.W.kitOne X.K t c = some b) (h : ∀ tk, Q (.bool b) { s with toks := tk }) :
 wpAny (model X.prog X.w) A (call (.builtin "isinstance") [u, c]) Q E s := by
 cases ty with
 | non => cases (show u = Value.none from rx); exact PySem.W.kia_one PySem.W.kitx_none I.kIn True.intro e (fun z => nomatch z) h
 | bl y => cases (show u = Value.bool y from rx); exact PySem.W.kia_one PySem.W.kitx_bool I.kIn True.intro e (fun z => nomatch z) h
 | int i => obtain ⟨t, q⟩ := (show ∃ t, u = Value.int i t from rx); cases q; exact PySem.W.kia_one PySem.W.kitx_int I.kIn True.intro e (fun z => nomatch z) h
 | str y => obtain ⟨t, q⟩ := (show ∃ t, u = Value.str y t from rx); cases q; exact PySem.W.kia_one PySem.W.kitx_str I.kIn True.intro e (fun z => nomatch z) h
 | flt y => obtain ⟨t, q⟩ := (show ∃ t, u = Value.float y t from rx); cases q; exact PySem.W.kia_one PySem.W.kitx_float I.kIn True.intro e (fun z => nomatch z) h
 | @lst a xs ea =>
  cases (show u = Value.ref a from rx)
  obtain ⟨_, _, n, _, h1⟩ := (show ObjOk X.prog X.w H s.heap a (.lst xs) from I.hok a _ ea)
  exact PySem.W.kia_one PySem.W.kitx_list I.kIn ⟨_, h1, rfl⟩ e (fun z => nomatch z) h
 | @frz a ob xs ea =>
  cases (show u = Value.ref a from rx)
  obtain ⟨_, _, _, n, _, h1⟩ := (show ObjOk X.prog X.w H s.heap a (.frz ob (.lst xs)) from I.hok a _ ea)
  exact PySem.W.kia_one PySem.W.kitx_list I.kIn ⟨_, h1, rfl⟩ e (fun z => nomatch z) h
 | @tup a xs ea =>
  cases (show u = Value.ref a from rx)
  obtain ⟨_, _, _, p⟩ := (show ObjOk X.prog X.w H s.heap a (.tup xs) from I.hok a _ ea)
  obtain ⟨o, h1, h2, _⟩ := p
  exact PySem.W.kia_one PySem.W.kitx_tuple I.kIn ⟨o, h1, h2⟩ e (fun z => nomatch z) h
 | @dK a kvs ea =>
  cases (show u = Value.ref a from rx)
  obtain ⟨_, _, vs, _, p⟩ := (show ObjOk X.prog X.w H s.heap a (.dK kvs) from I.hok a _ ea)
  obtain ⟨o, es, ep, h1, h2, _⟩ := p
  exact PySem.W.kia_one PySem.W.kitx_dict I.kIn ⟨o, h1, h2.1⟩ e (fun z => nomatch z) h
 | @dT a kvs ea =>
  cases (show u = Value.ref a from rx)
  obtain ⟨_, _, xs, _, o, es, ep, h1, h2, _⟩ := (show ObjOk X.prog X.w H s.heap a (.dT kvs) from I.hok a _ ea)
  exact PySem.W.kia_one PySem.W.kitx_dict I.kIn ⟨o, h1, h2.1⟩ e (fun z => nomatch z) h
 | @ins a C dx fs ea cl ha hn htk hm =>
  cases (show u = Value.ref a from rx)
  obtain ⟨mA, O, _⟩ := zk0 I.hok ea
  obtain ⟨od, J, _⟩ := O.look
  exact PySem.W.kia_one (PySem.W.kitx_own (cl.get _) cl.hd ha hn htk hm) I.kIn J e (fun z => nomatch z) h
end
structure Room (k : Nat) (A : Around) : Prop where
 hd : A.handled = none
 dp : A.depth + 3 * k + 5 < recursionLimit
 un : A.units + 16 * k + 200 < cLine
 gd : A.guards = some []
theorem Room.mono {j k : Nat} {A : Around} (r : Room k A) (h : j ≤ k) : Room j A := ⟨r.hd, by have := r.dp; omega, by have := r.un; omega, r.gd⟩
theorem Room.deeper {k : Nat} {A : Around} (r : Room (k + 1) A) (env : Env) : Room k (A.deeper env) :=
 ⟨r.hd, by have := r.dp; show A.depth + 1 + 3 * k + 5 < _; omega, by have := r.un; show A.units + 3 + 16 * k + 200 < _; omega, r.gd⟩
theorem Room.depth {k : Nat} {A : Around} (r : Room k A) : A.depth < recursionLimit := by have := r.dp; omega
theorem Room.units {k : Nat} {A : Around} (r : Room k A) : A.units + 64 < cLine := by have := r.un; omega
def tNil : TA := fun _ H Q => Q [] H
def zlg (ta : TE) (tr : TA) : TA := fun σ H Q => ta σ H fun x H1 => tr σ H1 fun xs H2 => Q (x :: xs) H2
section
variable {X : Cx} {e : Expr} {es : List Expr} {te : TE} {t : TA} {pos : Pos}
theorem zac : PA X [] tNil := fun _ _ _ _ H Q I h => Calls.spliced_nil ⟨[], H, I, .nil, h⟩
theorem zaa (ha : PE X e te) (hr : PA X es t) (hs : starEach (e :: es) X.env = (false, eval e X.env) :: starEach es X.env := by rfl) : PA X (e :: es) (zlg te t) := by
 intro pos pins s σ H Q I h
 rw [hs]
 show wpAny _ _ (spliced ((false, eval e X.env) :: backTo pos (starEach es X.env))) _ _ s
 refine Calls.spliced_cons (thn (ha pins s σ H _ I h) fun u s1 ⟨x, H1, I1, r1, q1⟩ => ?_)
 exact thn (hr pos pins s1 σ H1 _ I1 q1) fun us s2 ⟨xs, H2, I2, r2, q2⟩ => ⟨x :: xs, H2, I2, .cons r1 r2, q2⟩
def tTup (t : TA) : TE := fun σ H Q => t σ H fun xs H1 => xs.length ≤ sizeLine ∧ ∀ p, H1 p = none → Q (.ref p) (upd H1 p (.tup xs))
def tLst (t : TA) : TE := fun σ H Q => t σ H fun xs H1 => xs.length ≤ sizeLine ∧ ∀ p, H1 p = none → Q (.ref p) (upd H1 p (.lst xs))
theorem zaJ {x1} (h : PA X es t) : PE X (.Tuple es x1 pos) (tTup t) := by
 intro pins s σ H Q I hq
 refine wpAny_Tuple_spliced (thn (h pos pins s σ H _ I hq) fun us s1 ⟨xs, H1, I1, r, z, q⟩ => ⟨by rw [← r.length]; exact z, ?_⟩)
 have hf : H1 s1.heap.objs.size = none := I1.hok.fresh (Nat.le_refl _)
 refine ⟨.ref s1.heap.objs.size, upd H1 s1.heap.objs.size (.tup xs), I1.laid (t' := s1.toks) (fun b u e => Heap.get?_push_of_some _ e) (Nat.le_refl _) ?_, rfl, q _ hf⟩
 exact ⟨z, us, r, ⟨_, Heap.get?_push_size _ rfl, rfl, rfl, _, rfl⟩⟩
theorem zaY (h : PA X es t) : PE X (.List es pos) (tLst t) := by
 intro pins s σ H Q I hq
 refine wpAny_List_spliced (thn (h pos pins s σ H _ I hq) fun us s1 ⟨xs, H1, I1, r, z, q⟩ => ⟨by rw [← r.length]; exact z, ?_⟩)
 have hf : H1 s1.heap.objs.size = none := I1.hok.fresh (Nat.le_refl _)
 refine ⟨.ref s1.heap.objs.size, upd H1 s1.heap.objs.size (.lst xs), I1.laid (t' := s1.toks) (fun b u e => Heap.get?_push_of_some _ e) (Nat.le_refl _) ?_, rfl, q _ hf⟩
 exact ⟨z, us, 0, r, Heap.get?_push_size _ rfl⟩
end
abbrev Sp := List V → Hp → VK → XK → Prop
abbrev CXT := List Env → Hp → Shared → XK → Value → Shared → Prop
structure Env0 (P : Program) (w : World) (K : PySem.W.Frag) (mg : Str → Option Value) (base : Heap) (A : Around) (outer : List Env) (s : Shared) (H : Hp) : Prop where
 frames : A.frames = some outer
 mod : Mod K mg base
 bs : ∀ b o, base.get? b = some o → s.heap.get? b = some o ∧ H b = none
 bsz : base.objs.size ≤ s.heap.objs.size
 funs : s.heap.FunFrames base outer
 frf : ∀ b ∈ frs outer, H b = none
 hok : HOk P w H s.heap
 bare : AllBare s.gens
def CE (outer : List Env) (P : Program) (w : World) (H : Hp) (s : Shared) (Q : VK) (u : Value) (s' : Shared) : Prop :=
 ∃ v H', s'.os = s.os ∧ AllBare s'.gens ∧ Un (frs outer) [] H H' s.heap s'.heap ∧ HOk P w H' s'.heap ∧ RelV v u ∧ Q v H'
def CR (CX : CXT) (outer : List Env) (P : Program) (w : World) (H : Hp) (s : Shared) (Q : VK) (E : XK) (r : Result) (s' : Shared) : Prop :=
 match r with
 | .ok (.ret u) => CE outer P w H s Q u s'
 | .ok _ => False
 | .error e => CX outer H s E e s'
structure FnOk (P : Program) (w : World) (K : PySem.W.Frag) (mg : Str → Option Value) (base : Heap) (CX : CXT) (k : Nat) (f : Addr) (fd : FuncData) (ps : List Str) (sp : Sp) : Prop where
 len : ∀ vs H Q E, sp vs H Q E → vs.length = ps.length
 run : ∀ (A : Around) (outer : List Env) (s : Shared) (H : Hp) (args : Args) (us : List Value) (vs : List V) (Q : VK) (E : XK), Room k A → Env0 P w K mg base A outer s H → BindsTo s fd args (ps.zip us) → Vals vs us → sp vs H Q E →
  codeAny (model P w) A (.call (.ref f) args) (CR CX outer P w H s Q E) s
section
variable {X : Cx} {pins : List (Addr × Obj)} {σ : St} {H : Hp} {s s' : Shared}
theorem Inv.env0 (I : Inv X pins σ H s) : Env0 X.prog X.w X.K X.mg X.base X.A X.stack s H :=
 ⟨I.ok.frames, I.ok.mod, I.bs, Nat.le_trans I.ok.bsz I.sz, I.stack, I.stkFree, I.hok, I.bare⟩
theorem Inv.after {Q : VK} {u : Value} (I : Inv X pins σ H s) (h : CE X.stack X.prog X.w H s Q u s') : EP X pins σ Q u s' := by
 obtain ⟨v, H', os, bare, un, hok, r, q⟩ := h
 obtain ⟨hh, g, d, t, os'⟩ := s'
 obtain rfl : os' = s.os := os
 exact ⟨v, H', I.call (h' := hh) (g' := g) (d' := d) (t' := t) (ch := []) un hok bare (fun b z => absurd z (by simp)), r, q⟩
end
def zlh (sp : Sp) (dvs : List V) (E : XK) (t : TA) : TE := fun σ H Q => t σ H fun vs H1 => sp (vs ++ dvs) H1 Q E
def Binds (K : PySem.W.Frag) (fd : FuncData) (ps : List Str) (ds : List Value) : Prop :=
 ∀ (s : Shared) (us : List Value), K.In s.heap → (us ++ ds).length = ps.length → BindsTo s fd ⟨us, []⟩ (ps.zip (us ++ ds))
theorem Binds.all {K : PySem.W.Frag} {fd : FuncData} {ps : List Str} (h : ∀ us : List Value, us.length = ps.length → bindArgs fd ⟨us, []⟩ = pure (ps.zip us)) : Binds K fd ps [] := fun s us _ hl => by
 rw [List.append_nil] at hl ⊢
 exact .of_eq (h us hl)
def zjw (CX : CXT) (X : Cx) (E : XK) : Prop := ∀ (pins : List (Addr × Obj)) (σ : St) (H : Hp) (s : Shared) (e : Value) (s' : Shared), Inv X pins σ H s → CX X.stack H s E e s' → X.xe e s'
section
variable {X : Cx} {CX : CXT} {k : Nat} {f C : Addr} {fd : FuncData} {ps : List Str} {sp : Sp} {dvs : List V} {ds : List Value} {E : XK} {x m : Str} {p pos apos : Pos} {e o : Expr} {es : List Expr} {ta : TE} {t : TA}
theorem zlk {pins : List (Addr × Obj)} {σ : St} {H : Hp} {s : Shared} {Q : VK} {us : List Value} {vs : List V} (F : FnOk X.prog X.w X.K X.mg X.base CX k f fd ps sp) (hr : Room k X.A) (hb : Binds X.K fd ps ds) (hd : Vals dvs ds) (hx : zjw CX X E)
 (I : Inv X pins σ H s) (r : Vals vs us) (h : sp (vs ++ dvs) H Q E) : wpAny (model X.prog X.w) X.A (call (.ref f) us) (EP X pins σ Q) X.xe s := by
 have r2 : Vals (vs ++ dvs) (us ++ ds) := r.append hd
 have hl : (us ++ ds).length = ps.length := by rw [← r2.length]; exact F.len _ _ _ _ h
 refine wpAny_call (codeAny_mono (F.run X.A X.stack s H ⟨us, []⟩ (us ++ ds) (vs ++ dvs) Q E hr I.env0 (hb s us I.kIn hl) r2 h) fun r s' hq => ?_)
 cases r with
 | error e => exact hx pins σ H s e s' I hq
 | ok fl =>
  cases fl with
  | ret u => exact I.after hq
  | next => exact False.elim hq
  | brk => exact False.elim hq
  | cont => exact False.elim hq
theorem zkT (F : FnOk X.prog X.w X.K X.mg X.base CX k f fd ps sp) (hr : Room k X.A) (hg : Gl X x) (hm : X.mg x = some (.ref f)) (hk : PySem.W.keepIn X.K (.ref f) = true) (hb : Binds X.K fd ps ds) (hd : Vals dvs ds) (hx : zjw CX X E)
 (ha : PA X (e :: es) t) (hdb : (x == ("__debug__" : Str)) = false := by decide) (he : starEach (e :: es) X.env = (false, eval e X.env) :: starEach es X.env := by rfl) (hpl : (backTo pos (starEach es X.env)).any (·.1) = false := by rfl) :
 PE X (.Call (.Name x p) (e :: es) [] pos) (zlh sp dvs E t) := by
 intro pins s σ H Q I h
 refine wpAny_Call_Name_kw (ziN I hg hm ?_ hdb)
 refine PySem.W.callWith_K (h₀ := X.base) I.ok.mod.kin hk (thn (ha pos pins s σ H _ I h) fun us s1 ⟨vs, H1, I1, r, q⟩ => ⟨I1.kIn, ?_⟩) he hpl
 exact zlk F hr hb hd hx I1 r q
end
def PK (X : Cx) (kws : List Keyword) (t : TA) : Prop :=
 ∀ (pos : Pos) (pins : List (Addr × Obj)) (s : Shared) (σ : St) (H : Hp) (Q : List V → Hp → Prop), Inv X pins σ H s → t σ H Q → wpAny (model X.prog X.w) X.A (evalAll ((backToKw pos (keywordEach kws X.env)).map (·.2))) (AP X pins σ Q) X.xe s
section
variable {X : Cx} {CX : CXT} {k : Nat} {f C : Addr} {fd : FuncData} {ps ks : List Str} {sp : Sp} {E : XK} {x m : Str} {p pos apos kpos : Pos} {e o : Expr} {es : List Expr} {kws : List Keyword} {te ta : TE} {t tk : TA} {nm : Option Str}
theorem zkh : PK X [] tNil := fun _ _ _ _ H Q I h => wpAny_evalAll_nil ⟨[], H, I, .nil, h⟩
theorem ziy (ha : PE X e te) (hr : PK X kws t) : PK X (⟨nm, e, kpos⟩ :: kws) (zlg te t) := by
 intro pos pins s σ H Q I h
 show wpAny _ _ (evalAll ((do let v ← eval e X.env; standAt pos; pure v) :: (backToKw pos (keywordEach kws X.env)).map (·.2))) _ _ s
 refine wpAny_evalAll_cons (wpAny_bind (thn (ha pins s σ H _ I h) fun u s1 ⟨x, H1, I1, r1, q1⟩ => wpAny_bind (wpAny_standAt (wpAny_pure ?_))))
 exact thn (hr pos pins s1 σ H1 _ I1 q1) fun us s2 ⟨xs, H2, I2, r2, q2⟩ => ⟨x :: xs, H2, I2, .cons r1 r2, q2⟩
variable {g : List Value → List Value → List Value} {gV : List V → List V → List V}
end
structure FnScope (N P : List Str) (sc : Scope) : Prop where
 kind : sc.kind = .function
 co : sc.isCoroutine = false
 gen : sc.isGenerator = false
 nd : N.Nodup
 pre : N.take P.length = P
 par : ∀ x ∈ P, sc.names.lookup x = some .local ∨ sc.names.lookup x = some .cell
 nofree : ∀ y ∈ sc.names, y.2 ≠ .free
theorem zf3 {kindOf : Str → Option NameKind} {x : Str} : ∀ {binds : List (Str × Value)} {m : Str → Option Value}, (∀ v, (x, v) ∉ binds) → bindL kindOf binds m x = m x
 | [], _, _ => rfl
 | (n, v) :: r, m, h => by
  unfold bindL
  rw [zf3 fun w hw => h w (List.mem_cons_of_mem _ hw)]
  split
  · have : x ≠ n := by rintro rfl; exact h v List.mem_cons_self
    simp [this]
  · rfl
theorem zf5 {kindOf : Str → Option NameKind} {x : Str} : ∀ {binds : List (Str × Value)} {m : Str → Option Value}, (∀ v, (x, v) ∉ binds) → bindC kindOf binds m x = m x
 | [], _, _ => rfl
 | (n, v) :: r, m, h => by
  unfold bindC
  rw [zf5 fun w hw => h w (List.mem_cons_of_mem _ hw)]
  split
  · rfl
  · have : x ≠ n := by rintro rfl; exact h v List.mem_cons_self
    simp [this]
theorem zf4 {kindOf : Str → Option NameKind} {x : Str} {v : Value} : ∀ {P : List Str} {vs : List Value} {i : Nat} {m : Str → Option Value}, P.Nodup → P[i]? = some x → vs[i]? = some v → kindOf x = some .local →
 bindL kindOf (P.zip vs) m x = some v
 | [], _, _, _, _, h, _, _ => by simp at h
 | _ :: _, [], _, _, _, _, h, _ => by simp at h
 | p :: P, w :: vs, 0, m, nd, h1, h2, hk => by
  simp at h1 h2; subst h1; subst h2
  show bindL kindOf ((p, w) :: P.zip vs) m p = _
  unfold bindL
  rw [zf3 fun v hv => (List.nodup_cons.mp nd).1 (List.of_mem_zip hv).1, if_pos hk]
  simp
 | p :: P, w :: vs, i + 1, m, nd, h1, h2, hk => by
  show bindL kindOf ((p, w) :: P.zip vs) m x = _
  unfold bindL
  exact zf4 (i := i) (List.nodup_cons.mp nd).2 (by simpa using h1) (by simpa using h2) hk
theorem zf6 {kindOf : Str → Option NameKind} {x : Str} {v : Value} : ∀ {P : List Str} {vs : List Value} {i : Nat} {m : Str → Option Value}, P.Nodup → P[i]? = some x → vs[i]? = some v → kindOf x ≠ some .local →
 bindC kindOf (P.zip vs) m x = some v
 | [], _, _, _, _, h, _, _ => by simp at h
 | _ :: _, [], _, _, _, _, h, _ => by simp at h
 | p :: P, w :: vs, 0, m, nd, h1, h2, hk => by
  simp at h1 h2; subst h1; subst h2
  show bindC kindOf ((p, w) :: P.zip vs) m p = _
  unfold bindC
  rw [zf5 fun v hv => (List.nodup_cons.mp nd).1 (List.of_mem_zip hv).1, if_neg hk]
  simp
 | p :: P, w :: vs, i + 1, m, nd, h1, h2, hk => by
  show bindC kindOf ((p, w) :: P.zip vs) m x = _
  unfold bindC
  exact zf6 (i := i) (List.nodup_cons.mp nd).2 (by simpa using h1) (by simpa using h2) hk
def zfh (N : List Str) (vs : List V) : St := vs.map some ++ List.replicate (N.length - vs.length) none
def cxOf (CX : CXT) (P : Program) (w : World) (K : PySem.W.Frag) (mg : Str → Option Value) (base : Heap) (N : List Str) (qual : Str) (scope : Scope) (f : Addr) (cd : Value) (A : Around) (outer : List Env) (s : Shared) (H : Hp) (E : XK) : Cx where
 prog := P
 w := w
 K := K
 mg := mg
 base := base
 A := A.deeper (envOfC qual scope s.heap.objs.size f cd)
 N := N
 s₀ := s
 H₀ := H
 env := envOfC qual scope s.heap.objs.size f cd
 outer := outer
 stack := envOfC qual scope s.heap.objs.size f cd :: outer
 ex := []
 calm := true
 fn := fun _ => true
 pn := []
 xe := fun e s' => wpAny (model P w) (A.deeper (envOfC qual scope s.heap.objs.size f cd)) (leaving (envOfC qual scope s.heap.objs.size f cd) e) (fun _ s'' => CX outer H s E e s'') (fun e' s'' => CX outer H s E e' s'') s'
theorem zhp {sc : Scope} {n : Nat} {x : Str} (h : sc.names.lookup x = some .cell) : ∃ c, (cellsFrom n sc.names []).lookup x = some c := by
 have q := PySem.W.cellsFrom_some sc.names n [] (.inl h)
 exact Option.isSome_iff_exists.mp q
theorem zi2 {CX : CXT} {P : Program} {w : World} {K : PySem.W.Frag} {mg : Str → Option Value} {base : Heap} {N ps : List Str} {qual : Str} {scope : Scope} {f : Addr} {cd : Value} {A : Around} {outer : List Env} {s s1 : Shared} {H : Hp} {E : XK} {us : List Value} {vs : List V}
 (S : FnScope N ps scope) (hd : A.handled = none) (e0 : Env0 P w K mg base A outer s H) (hl : vs.length = ps.length) (r : Vals vs us)
 (x : InCallC s s.heap.objs.size (bindL (envOfC qual scope s.heap.objs.size f cd).kindOf (ps.zip us) fun _ => none) (cellsFrom (s.heap.objs.size + 1) scope.names []) (bindC (envOfC qual scope s.heap.objs.size f cd).kindOf (ps.zip us) fun _ => none) s1) :
 Inv (cxOf CX P w K mg base N qual scope f cd A outer s H E) [] (zfh N vs) H s1 := by
 have hpl : ps.length ≤ N.length := by have := congrArg List.length S.pre; rw [List.length_take] at this; omega
 obtain ⟨h1, tk, rfl, hk⟩ := x.done
 have noA : ∀ b : Addr, b ∉ (cxOf CX P w K mg base N qual scope f cd A outer s H E).ex := fun b z => absurd (show b ∈ ([] : List Addr) from z) (by simp)
 refine ⟨⟨e0.mod, S.kind, rfl, rfl, Nat.le_refl _, fun y z c h1 h2 => ?_, fun y hy => ?_, fun y c _ h => ?_, fun _ => hd, Around.frames_deeper e0.frames, .inr ⟨rfl, rfl⟩, fun b z => absurd z (noA b), e0.bs, e0.bsz, fun b _ _ => noA b, fun b z => absurd z (noA b), e0.funs, e0.frf⟩,
  rfl, e0.bare, Un.kept hk, ⟨_, x.toInCall.ns, fun i y v h1 h2 h3 => ?_⟩, fun y c h => ⟨_, x.cell y c h⟩, e0.hok.fresh (Nat.le_refl _), fun y c h => ?_, fun p hp => absurd (show p ∈ ([] : List (Addr × Obj)) from hp) (by simp), e0.hok.kept hk, ?_⟩
 · exact name_of_addr x.apart (PySem.mem_of_lookup h1) (PySem.mem_of_lookup h2)
 · have hy : scope.names.lookup y = some .cell ∨ scope.names.lookup y = some .free := hy
   rcases hy with hy | hy
   · exact zhp hy
   · exact absurd rfl (S.nofree _ (PySem.mem_of_lookup hy))
 · exact Nat.le_of_lt (x.above y c (PySem.mem_of_lookup h))
 · have hi : i < vs.length := by
    unfold zfh at h2
    by_cases hi : i < vs.length
    · exact hi
    · rw [List.getElem?_append_right (by simpa using hi)] at h2
      rw [List.getElem?_replicate] at h2
      split at h2 <;> cases h2
   have ha : vs[i]? = some v := by
    unfold zfh at h2
    rw [List.getElem?_append_left (by simpa using hi), List.getElem?_map] at h2
    cases e : vs[i]? with
    | none => rw [e] at h2; cases h2
    | some a => rw [e] at h2; cases h2; rfl
   obtain ⟨u, hu, rv⟩ := r.get ha
   have hp : ps[i]? = some y := by
    rw [← S.pre, List.getElem?_take_of_lt (by omega)]; exact h1
   have ndP : ps.Nodup := by rw [← S.pre]; exact S.nd.sublist (List.take_sublist _ _)
   refine ⟨u, rv, ?_⟩
   rcases S.par y (List.mem_of_getElem? hp) with k | k
   · exact .inl ⟨k, zf4 ndP hp hu k⟩
   · obtain ⟨c, e⟩ := zhp (n := s.heap.objs.size + 1) k
     refine .inr ⟨.inl k, c, e, ?_⟩
     have q := x.cell y c e
     rw [zf6 ndP hp hu (by show scope.names.lookup y ≠ _; rw [k]; decide)] at q
     exact q
 · exact e0.hok.fresh (Nat.le_of_lt (x.above y c (PySem.mem_of_lookup h)))
 · unfold zfh
   show _ = N.length
   rw [List.length_append, List.length_map, List.length_replicate]
   omega
theorem zmc {CX : CXT} {P : Program} {w : World} {K : PySem.W.Frag} {mg : Str → Option Value} {base : Heap} {k : Nat} {f : Addr} {name qual : Str} {params : Arguments} {body : List Stmt} {scope : Scope} {dV kV doc pm cdv ct oc : Value} {an od : Option Addr}
 {osl : Array (Option Value)} {N ps : List Str} {sp : Sp} (lk : K.lookup f = some ⟨oc, od, .func (PySem.W.fnOf name qual params body scope dV kV doc pm an cdv ct), osl⟩) (hcd : PySem.W.codeIn K cdv qual = true) (S : FnScope N ps scope)
 (len : ∀ vs H Q E, sp vs H Q E → vs.length = ps.length)
 (hbody : ∀ (A : Around) (outer : List Env) (s : Shared) (H : Hp) (vs : List V) (Q : VK) (E : XK), Room k (A.deeper (envOfC qual scope s.heap.objs.size f cdv)) → sp vs H Q E →
  ∃ t, PSs (cxOf CX P w K mg base N qual scope f cdv A outer s H E) body t ∧ t { nx := fun _ H' => Q .non H', rt := Q } (zfh N vs) H) :
 FnOk P w K mg base CX (k + 1) f (PySem.W.fnOf name qual params body scope dV kV doc pm an cdv ct) ps sp := by
 refine ⟨len, fun A outer s H args us vs Q E hr e0 hb r hsp => ?_⟩
 have hl := len _ _ _ _ hsp
 have KX : K.In s.heap := e0.mod.kin.keeps fun b o e => (e0.bs b o e).1
 have lim : s.heap.NoLimit := e0.mod.nolimit.keeps fun b o e => (e0.bs b o e).1
 have hkind : ∀ y ∈ ps.zip us, scope.names.lookup y.1 = some .local ∨ (scope.names.lookup y.1 = some .cell ∧ ((cellsFrom (s.heap.objs.size + 1) scope.names []).lookup y.1).isSome = true) := fun ⟨n, v⟩ hy => by
  rcases S.par n (List.of_mem_zip hy).1 with q | q
  · exact .inl q
  · exact .inr ⟨q, PySem.W.cellsFrom_some _ _ _ (.inl q)⟩
 refine codeAny_call_function hr.depth (KX _ _ lk) rfl S.co S.gen rfl (PySem.W.codeRec_of KX hcd) (hb _ _ _ _ ?_)
 refine wpAny_newFunctionEnv_cells S.kind hkind fun env he s1 x => ?_
 subst he
 refine ⟨lim.keeps x.toInCall.keep, codeAny_func ?_⟩
 obtain ⟨t, ht, hq⟩ := hbody A outer s H vs Q E (hr.deeper _) hsp
 have I : Inv (cxOf CX P w K mg base N qual scope f cdv A outer s H E) [] (zfh N vs) H s1 := zi2 S hr.hd e0 hl r x
 refine wpAny_mono (ht [] s1 (zfh N vs) H _ I hq) (fun fl s' hs => ?_) fun e s' hs => hs
 have fin : ∀ {σ' : St} {H' : Hp} {v : V} {u : Value}, Inv (cxOf CX P w K mg base N qual scope f cdv A outer s H E) [] σ' H' s' → RelV v u → Q v H' → CE outer P w H s Q u s' :=
  fun {σ' H' v u} J rv q => ⟨v, H', J.os, J.bare, J.base, J.hok, rv, q⟩
 cases fl with
 | ret u =>
  obtain ⟨v, σ', H', J, rv, q⟩ := hs
  exact fin J rv q
 | next =>
  obtain ⟨σ', H', J, q⟩ := hs
  exact fin (v := V.non) (u := Value.none) J rfl q
 | brk =>
  obtain ⟨_, _, _, q⟩ := hs
  exact False.elim q
 | cont =>
  obtain ⟨_, _, _, q⟩ := hs
  exact False.elim q
section
variable {X : Cx} {x : Str} {p pos : Pos} {e : Expr} {es : List Expr} {t : TA} {id T : String} {r : List V → Hp → VK → Prop}
def tCB (r : List V → Hp → VK → Prop) (t : TA) : TE := fun σ H Q => t σ H fun vs H1 => r vs H1 Q
theorem zai (hc : zcQ X (.builtin id) r) (hg : Gl X x) (hm : X.mg x = none) (hv : bootBuiltins x = some (.builtin id)) (ha : PA X (e :: es) t) (hn : x ≠ "__name__" := by decide) (hdb : (x == ("__debug__" : Str)) = false := by decide)
 (he : starEach (e :: es) X.env = (false, eval e X.env) :: starEach es X.env := by rfl) (hpl : (backTo pos (starEach es X.env)).any (·.1) = false := by rfl) : PE X (.Call (.Name x p) (e :: es) [] pos) (tCB r t) := by
 intro pins s σ H Q I h
 refine wpAny_Call_Name_kw (zc6 I hg hm hv ?_ hn hdb)
 exact PyProof.Rows.callWith_builtin1 (thn (ha pos pins s σ H _ I h) fun us s1 ⟨vs, H1, I1, r1, q1⟩ => hc pins s1 σ H1 vs us Q I1 r1 q1) he hpl
theorem zbT (hc : zcQ X (.type T) r) (hg : Gl X x) (hm : X.mg x = none) (hv : bootBuiltins x = some (.type T)) (ha : PA X (e :: es) t) (hn : x ≠ "__name__" := by decide) (hdb : (x == ("__debug__" : Str)) = false := by decide)
 (he : starEach (e :: es) X.env = (false, eval e X.env) :: starEach es X.env := by rfl) (hpl : (backTo pos (starEach es X.env)).any (·.1) = false := by rfl) : PE X (.Call (.Name x p) (e :: es) [] pos) (tCB r t) := by
 intro pins s σ H Q I h
 refine wpAny_Call_Name_kw (zc6 I hg hm hv ?_ hn hdb)
 exact PyProof.Rows.callWith_type1 (thn (ha pos pins s σ H _ I h) fun us s1 ⟨vs, H1, I1, r1, q1⟩ => hc pins s1 σ H1 vs us Q I1 r1 q1) he hpl
end
end L2
namespace HT
open PySem PyProof.Rows
section
open PySem.SeqAt
open PySem.AutoSeq1 (wpAny_loadPart')
open PySem.MeetsSeq PySem.MeetsSeq2 PySem.MeetsSeq3
end
section
variable {prog : Program} {w : World} {A : Around} {E : Value → Shared → Prop} {s : Shared}
theorem cat_tup {t b : Addr} {vs ws : List Value} {Q : Value → Shared → Prop} (ht : IsTup s.heap t vs.toArray) (hb : IsTup s.heap b ws.toArray) (hv : vs ≠ [])
 (h1 : ws = [] → Q (.ref t) s) (h2 : ws ≠ [] → Q (.ref s.heap.objs.size) { s with heap := s.heap.push { cls := .type "tuple", data := .seq (vs ++ ws).toArray } })
 (hsz : vs.length + ws.length ≤ sizeLine) : wpAny (model prog w) A (binaryOp .Add (.ref t) (.ref b)) Q E s := by
 obtain ⟨⟨cls, dd, data, sl⟩, ho, hc, n, hd⟩ := id ht
 obtain ⟨⟨cls2, dd2, data2, sl2⟩, ho2, hc2, n2, hd2⟩ := id hb
 simp only at hc hd hc2 hd2
 subst hc hd hc2 hd2
 have e : vs.toArray ++ ws.toArray = (vs ++ ws).toArray := by simp
 by_cases hw : ws = []
 · exact concat_meets ⟨_, ho, rfl⟩ ⟨_, ho2, rfl⟩ noFill_tuple_add seq_tuple_add PySem.F.slot_tuple_add PySem.F.entry_tuple_add (PySem.F.args_tuple_add_2 _ _)
    (tuple_addW1 t b vs.toArray ws.toArray n n2 dd dd2 sl sl2 (by simpa using hv) (by simp [hw])) ⟨ho, ho2, h1 hw⟩
 · refine concat_meets ⟨_, ho, rfl⟩ ⟨_, ho2, rfl⟩ noFill_tuple_add seq_tuple_add PySem.F.slot_tuple_add PySem.F.entry_tuple_add (PySem.F.args_tuple_add_2 _ _)
    (tuple_addW2 t b vs.toArray ws.toArray n n2 dd dd2 sl sl2 (by simpa using hv) (by simpa using hw) (by rw [List.size_toArray, List.size_toArray]; exact hsz)) ⟨ho, ho2, ?_⟩
   rw [e]
   exact h2 hw
def sIx (n d : Nat) : Option Int → Nat
 | none => d
 | some v => if v < 0 then (v + (n : Int)).toNat else min v.toNat n
theorem sIx_none (n d : Nat) : sIx n d none = d := rfl
theorem sIx_nat (n d k : Nat) : sIx n d (some (k : Int)) = min k n := by
 show (if (k : Int) < 0 then ((k : Int) + (n : Int)).toNat else min (k : Int).toNat n) = min k n
 rw [if_neg (by omega), Int.toNat_natCast]
theorem zlj (n d : Nat) (hd : d ≤ n) (o : Option Int) : sIx n d o ≤ n := by
 cases o with
 | none => exact hd
 | some v =>
  show (if v < 0 then (v + (n : Int)).toNat else min v.toNat n) ≤ n
  by_cases hv : v < 0
  · rw [if_pos hv]; omega
  · rw [if_neg hv]; exact Nat.min_le_right _ _
theorem zjn (v : Int) (n d : Nat) : (if v < 0 then max (v + (n : Int)) 0 else min v (n : Int)) = ((sIx n d (some v) : Nat) : Int) := by
 show (if v < 0 then max (v + (n : Int)) 0 else min v (n : Int)) = (((if v < 0 then (v + (n : Int)).toNat else min v.toNat n) : Nat) : Int)
 by_cases hv : v < 0
 · simp only [if_pos hv]; omega
 · simp only [if_neg hv]; omega
theorem zh8 (lo hi : Option Int) (n : Nat) : Builtin.Slice.sliceAdjust lo hi 1 (n : Int) = (((sIx n 0 lo : Nat) : Int), ((sIx n n hi : Nat) : Int)) := by
 have h1 : ¬ ((1 : Int) < 0) := by omega
 unfold Builtin.Slice.sliceAdjust
 simp only [h1, if_false]
 refine Prod.ext ?_ ?_
 · cases lo with
   | none => rfl
   | some v => exact zjn v n 0
 · cases hi with
   | none => rfl
   | some v => exact zjn v n n
theorem zhH (i j : Nat) : Builtin.Slice.slicePlaces (i : Int) (j : Int) 1 = j - i := by
 unfold Builtin.Slice.slicePlaces
 have h1 : (1 : Int) > 0 := by omega
 simp only [h1, if_true, Int.ediv_one]
 split <;> omega
theorem zeh {v : Value} {o : Option Int} {Q : Option Int → Shared → Prop} (p : IsPart v o) (h : Q o s) : wpAny (model prog w) A (Builtin.Slice.slicePartIndex v) Q E s := by
 cases p with
 | none => exact slicePart_none h
 | int i t => exact slicePart_int h
theorem sliceApplied_gen {sl : Addr} {vl vu : Value} {lo hi : Option Int} {n : Nat} {Q : Int × Int × Nat → Shared → Prop} (hs : s.heap.IsSliceOf sl vl vu .none) (pl : IsPart vl lo) (pu : IsPart vu hi)
 (h : Q (((sIx n 0 lo : Nat) : Int), 1, sIx n n hi - sIx n 0 lo) s) : wpAny (model prog w) A (Builtin.Slice.sliceApplied (.ref sl) (pure (n : Int))) Q E s := by
 obtain ⟨os, hos, hcs, hds⟩ := id hs
 unfold Builtin.Slice.sliceApplied Builtin.Slice.sliceFields
 refine wpAny_bind (wpAny_bind (wpAny_field hos hds (x := vl) rfl (wpAny_bind (wpAny_field hos hds (x := vu) rfl (wpAny_bind (wpAny_field hos hds (x := .none) rfl (wpAny_pure ?_)))))))
 refine wpAny_bind (slicePart_none ?_)
 show wpAny _ _ (if ((1 : Int) == 0) = true then _ else _) _ _ s
 rw [if_neg (by decide)]
 refine wpAny_bind (zeh pl (wpAny_bind (zeh pu (wpAny_bind (wpAny_pure ?_)))))
 show wpAny _ _ (match Builtin.Slice.sliceAdjust lo hi 1 (n : Int) with | (lo, hi) => pure (lo, (1 : Int), Builtin.Slice.slicePlaces lo hi 1)) _ _ s
 rw [zh8 lo hi n]
 show wpAny _ _ (pure (((sIx n 0 lo : Nat) : Int), (1 : Int), Builtin.Slice.slicePlaces ((sIx n 0 lo : Nat) : Int) ((sIx n n hi : Nat) : Int) 1)) _ _ s
 rw [zhH]
 exact wpAny_pure h
theorem zjK (xs : Array Value) (i k : Nat) : ((List.range k).filterMap fun (m : Nat) => xs[((i : Int) + (m : Int) * 1).toNat]?).toArray = ((xs.toList.drop i).take k).toArray := by
 have e : (fun (m : Nat) => xs[((i : Int) + (m : Int) * 1).toNat]?) = fun m => xs[i + m]? := by
  funext m
  have : ((i : Int) + (m : Int) * 1).toNat = i + m := by omega
  rw [this]
 rw [e]
 have := pick_run xs i k
 rw [List.filterMap_map] at this
 have e2 : ((fun x => xs[x]?) ∘ fun x => i + x) = fun m => xs[i + m]? := rfl
 rw [e2] at this
 rw [this]
theorem getItem_tuple_cut {t sl : Addr} {items : Array Value} {vl vu : Value} {lo hi : Option Int} {Q : Value → Shared → Prop} (ht : IsTup s.heap t items) (hs : s.heap.IsSliceOf sl vl vu .none) (pl : IsPart vl lo) (pu : IsPart vu hi)
 (hw : ¬ (sIx items.size 0 lo = 0 ∧ sIx items.size items.size hi = items.size))
 (h : Q (.ref s.heap.objs.size) { s with heap := s.heap.push { cls := .type "tuple", data := .seq ((items.toList.drop (sIx items.size 0 lo)).take (sIx items.size items.size hi - sIx items.size 0 lo)).toArray } })
 (hsz : items.size ≤ sizeLine) : wpAny (model prog w) A (getItem (.ref t) (.ref sl)) Q E s := by
 have htake : sizeOk (.seq ((items.toList.drop (sIx items.size 0 lo)).take (sIx items.size items.size hi - sIx items.size 0 lo)).toArray) := by
  show ((items.toList.drop (sIx items.size 0 lo)).take (sIx items.size items.size hi - sIx items.size 0 lo)).toArray.size ≤ sizeLine
  rw [List.size_toArray, List.length_take, List.length_drop, Array.length_toList]
  omega
 have hj : sIx items.size items.size hi ≤ items.size := zlj _ _ (Nat.le_refl _) hi
 obtain ⟨os, hos, hcs, hds⟩ := id hs
 have hTs : s.TypeIs (.ref sl) "slice" := ⟨os, hos, hcs⟩
 unfold getItem
 try with_reducible refine wpAny_holding ?_
 first | refine wpAny_bind (wpAny_pure ?_) | skip
 refine wpAny_bind (wpAny_sequenceKey ht.typeIs (by decide) ?_)
 refine wpAny_bind (wpAny_callSpecial?_slot (name := Str.ofString "__getitem__") ht.typeIs PyProof.Rows.slot_tuple_getitem
  (wpAny_call_entry PyProof.Rows.slot_tuple_getitem ht.typeIs entry_tuple_getitem ?_ (args_tuple_getitem _ _)))
 show wpAny _ _ (Builtin.Tuple.tupleItemsOf (.ref t) >>= _) _ _ s
 refine wpAny_bind (tupleItemsOf_ ht ?_)
 refine wpAny_bind (wpAny_typeOf hTs ?_)
 rw [if_pos (by decide)]
 refine wpAny_bind (sliceApplied_gen hs pl pu ?_)
 have hno : ¬ ((((sIx items.size 0 lo : Nat) : Int) == 0 && (1 : Int) == 1 && (sIx items.size items.size hi - sIx items.size 0 lo) == items.size) = true) := by
  intro q
  rw [Bool.and_eq_true, Bool.and_eq_true] at q
  have q1 : ((sIx items.size 0 lo : Nat) : Int) = 0 := eq_of_beq q.1.1
  have q2 : sIx items.size items.size hi - sIx items.size 0 lo = items.size := eq_of_beq q.2
  exact hw ⟨by omega, by omega⟩
 show wpAny _ _ (if (((sIx items.size 0 lo : Nat) : Int) == 0 && (1 : Int) == 1 && (sIx items.size items.size hi - sIx items.size 0 lo) == items.size) = true then _ else _) _ _ s
 rw [if_neg hno, zjK]
 first
  | exact wpAny_bind (m := Builtin.Tuple.tupleExact _) (wpAny_newObj_type (wpAny_pure ⟨_, rfl, wpAny_pure h⟩) htake)
  | exact wpAny_bind (m := Builtin.Tuple.tupleExact _) (wpAny_newObj_type (wpAny_bind (wpAny_pure (wpAny_pure ⟨_, rfl, wpAny_pure h⟩))) htake)
  | exact wpAny_bind (wpAny_bind (m := Builtin.Tuple.tupleExact _) (wpAny_newObj_type (wpAny_pure (wpAny_pure ⟨_, rfl, wpAny_pure h⟩)) htake))
  | exact wpAny_bind (wpAny_bind (m := Builtin.Tuple.tupleExact _) (wpAny_newObj_type (wpAny_pure ⟨_, rfl, wpAny_pure h⟩) htake))
end
end HT
namespace L2
open PySem PySem.Spec PyProof.Rows
abbrev TO := St → Hp → (Option Int → Hp → Prop) → Prop
def PO (X : Cx) (e : Option Expr) (t : TO) : Prop :=
 ∀ (pins : List (Addr × Obj)) (s : Shared) (σ : St) (H : Hp) (Q : Option Int → Hp → Prop), Inv X pins σ H s → t σ H Q →
  wpAny (model X.prog X.w) X.A (evalPart e X.env) (fun u s' => ∃ o H', Inv X pins σ H' s' ∧ IsPart u o ∧ Q o H') X.xe s
def zib : TO := fun _ H Q => Q none H
def zlT (t : TE) : TO := fun σ H Q => t σ H fun x H1 => ∃ i, x = .int i ∧ Q (some i) H1
section
variable {X : Cx} {e : Expr} {te : TE} {lo hi : Option Expr} {tl th : TO} {pos p2 : Pos}
theorem zbn : PO X none zib := by
 intro pins s σ H Q I h
 rw [evalPart_none]
 exact wpAny_pure ⟨none, H, I, .none, h⟩
theorem zbm (h : PE X e te) : PO X (some e) (zlT te) := by
 intro pins s σ H Q I hw
 rw [evalPart_some]
 refine thn (h pins s σ H _ I hw) fun u s1 ⟨x, H1, I1, r1, q1⟩ => ?_
 obtain ⟨i, rfl, q⟩ := q1
 obtain ⟨t, rfl⟩ := r1
 exact ⟨some i, H1, I1, .int i t, q⟩
def SlR (X : Cx) (r : V → Option Int → Option Int → Hp → VK → Prop) : Prop :=
 ∀ (pins : List (Addr × Obj)) (s : Shared) (σ : St) (H : Hp) (x : V) (v vl vu : Value) (lo hi : Option Int) (sl : Addr) (Q : VK), Inv X pins σ H s → RelV x v → s.heap.IsSliceOf sl vl vu .none → IsPart vl lo → IsPart vu hi → r x lo hi H Q →
  ∃ T id, typeLookup (.type T) "__getitem__" = pure (some (.builtin id)) ∧ s.TypeIs v T ∧ wpAny (model X.prog X.w) X.A (getItem v (.ref sl)) (EP X pins σ Q) X.xe s
def tSl (r : V → Option Int → Option Int → Hp → VK → Prop) (te : TE) (tl th : TO) : TE := fun σ H Q => te σ H fun x H1 => tl σ H1 fun l H2 => th σ H2 fun u H3 => r x l u H3 Q
theorem zaZ {r : V → Option Int → Option Int → Hp → VK → Prop} (hr : SlR X r) (he : PE X e te) (hl : PO X lo tl) (hu : PO X hi th) : PE X (.Subscript e (.Slice lo hi none p2) pos) (tSl r te tl th) := by
 intro pins s σ H Q I h
 refine Subscript_ (thn (he pins s σ H _ I h) fun v s1 ⟨x, H1, I1, r1, q1⟩ => ?_)
 refine wpAny_Slice (thn (hl pins s1 σ H1 _ I1 q1) fun vl s2 ⟨l, H2, I2, pl, q2⟩ => thn (hu pins s2 σ H2 _ I2 q2) fun vu s3 ⟨u, H3, I3, pu, q3⟩ => ?_)
 rw [evalPart_none]
 refine wpAny_pure ?_
 have I4 : Inv X pins σ H3 { s3 with heap := s3.heap.push { cls := .type "slice", data := .fields #[vl, vu, .none] } } := I3.kept (t' := s3.toks) fun b ob q => Heap.get?_push_of_some _ q
 obtain ⟨T, id, hT, ht, hg⟩ := hr pins { s3 with heap := s3.heap.push { cls := .type "slice", data := .fields #[vl, vu, .none] } } σ H3 x v vl vu l u s3.heap.objs.size Q I4 r1 (Heap.IsSliceOf.new ..) pl pu q3
 show wpAny (model X.prog X.w) X.A (subscriptTail e (.Slice lo hi none p2) v (.ref s3.heap.objs.size)) (EP X pins σ Q) X.xe { s3 with heap := s3.heap.push { cls := .type "slice", data := .fields #[vl, vu, .none] } }
 exact tail_any (ops := [.ref s3.heap.objs.size, v]) ht hT hg (by with_unfolding_all rfl)
def cutV (xs : List V) (lo hi : Option Int) : List V := (xs.drop (HT.sIx xs.length 0 lo)).take (HT.sIx xs.length xs.length hi - HT.sIx xs.length 0 lo)
theorem zd7 (xs : List V) (lo hi : Option Int) : (cutV xs lo hi).length ≤ xs.length := by
 unfold cutV
 rw [List.length_take, List.length_drop]
 omega
def rSlT (K : PySem.W.Frag) : V → Option Int → Option Int → Hp → VK → Prop := fun x lo hi H Q => ∃ a xs, x = .ref a ∧ SqT K H a xs ∧
 ¬ (HT.sIx xs.length 0 lo = 0 ∧ HT.sIx xs.length xs.length hi = xs.length) ∧ ∀ p, H p = none → Q (.ref p) (upd H p (.tup (cutV xs lo hi)))
theorem zli : SlR X (rSlT X.K) := by
 intro pins s σ H x v vl vu lo hi sl Q I rx hs pl pu h
 obtain ⟨a, xs, rfl, hx, hw, q⟩ := h
 cases rx
 obtain ⟨its, r, ht, hz⟩ := I.tuple hx
 have hlen : its.toArray.size = xs.length := by rw [List.size_toArray]; exact r.length.symm
 refine ⟨"tuple", _, PyProof.Rows.slot_tuple_getitem.lookup, ht.typeIs, ?_⟩
 refine HT.getItem_tuple_cut ht hs pl pu (by rw [hlen]; exact hw) ?_ (by rw [hlen]; exact hz)
 rw [hlen]
 refine ⟨.ref s.heap.objs.size, _, I.laid (t' := s.toks) (o := .tup (cutV xs lo hi)) (fun b ob q => Heap.get?_push_of_some _ q) (Nat.le_refl _) ?_, rfl, q _ (I.hok.fresh (Nat.le_refl _))⟩
 exact ⟨Nat.le_trans (zd7 xs lo hi) hz, _, (r.drop (HT.sIx xs.length 0 lo)).take (HT.sIx xs.length xs.length hi - HT.sIx xs.length 0 lo), IsTupP.new _ _⟩
theorem Vals.nil_iff {xs : List V} {us : List Value} (r : Vals xs us) : us = [] ↔ xs = [] := by
 cases r with
 | nil => simp
 | cons _ _ => simp
end
def ixN (n : Nat) (i : Int) : Option Nat := if 0 ≤ i then (if i < n then some i.toNat else none) else if -(n : Int) ≤ i then some (i + n).toNat else none
def atI {α : Type} (xs : List α) (i : Int) : Option α := (ixN xs.length i).bind fun j => xs[j]?
theorem zgU {n : Nat} {i : Int} {j : Nat} (h : ixN n i = some j) : seqIndex? i n = some j ∧ j < n ∧ -(n : Int) ≤ i ∧ i < n := by
 unfold ixN at h
 by_cases h0 : 0 ≤ i
 · rw [if_pos h0] at h
   by_cases h1 : i < n
   · rw [if_pos h1] at h
     have e : i.toNat = j := Option.some.inj h
     exact ⟨by rw [seqIndex_of h0 h1, e], by omega, by omega, h1⟩
   · rw [if_neg h1] at h; cases h
 · rw [if_neg h0] at h
   by_cases h1 : -(n : Int) ≤ i
   · rw [if_pos h1] at h
     have e : (i + n).toNat = j := Option.some.inj h
     exact ⟨by rw [seqIndex_neg (by omega) h1, e], by omega, h1, by omega⟩
   · rw [if_neg h1] at h; cases h
theorem zg2 {α : Type} {xs : List α} {i : Int} {v : α} (h : atI xs i = some v) : ∃ j, seqIndex? i xs.length = some j ∧ xs[j]? = some v ∧ j < xs.length ∧ -(xs.length : Int) ≤ i ∧ i < xs.length := by
 unfold atI at h
 cases e : ixN xs.length i with
 | none => rw [e] at h; cases h
 | some j =>
  rw [e] at h
  obtain ⟨h1, h2, h3, h4⟩ := zgU e
  exact ⟨j, h1, h, h2, h3, h4⟩
theorem zbC {α : Type} {xs : List α} {j : Nat} {v : α} (h : xs[j]? = some v) : atI xs (j : Int) = some v := by
 have hj : j < xs.length := (List.getElem?_eq_some_iff.mp h).1
 have e : ixN xs.length (j : Int) = some j := by
  unfold ixN
  rw [if_pos (by omega), if_pos (by omega)]; simp
 unfold atI; rw [e]; exact h
def zk6 (b : Expr) : Prop := ∀ o i, subscripted b false o i = operate [o, i] (getItem o i)
def IxR (X : Cx) (r : R2) : Prop :=
 ∀ (value slice : Expr) (pins : List (Addr × Obj)) (s : Shared) (σ : St) (H : Hp) (x y : V) (v u : Value) (Q : VK), Inv X pins σ H s → RelV x v → RelV y u → r x y H Q →
  subscripted slice false v u = operate [v, u] (getItem v u) → wpAny (model X.prog X.w) X.A (subscriptTail value slice v u) (EP X pins σ Q) X.xe s
def MtR (X : Cx) (id : String) (r : V → List V → Hp → VK → Prop) : Prop :=
 ∀ (pins : List (Addr × Obj)) (s : Shared) (σ : St) (H : Hp) (x : V) (xs : List V) (v : Value) (us : List Value) (Q : VK), Inv X pins σ H s → RelV x v → Vals xs us → r x xs H Q →
  wpAny (model X.prog X.w) X.A (call (.builtin id) (v :: us)) (EP X pins σ Q) X.xe s
section
variable {X : Cx} {a b : Expr} {ta tb : TE} {pos : Pos}
theorem zaG {r : R2} (hr : IxR X r) (ha : PE X a ta) (hb : PE X b tb) (hs : zk6 b) : PE X (.Subscript a b pos) (tOp r ta tb) := by
 intro pins s σ H Q I h
 exact Subscript_ (binT ha hb I h fun v u s2 x y H2 I2 rx ry q => hr a b pins s2 σ H2 x y v u Q I2 rx ry q (hs _ _))
def rIxL (K : PySem.W.Frag) : R2 := fun x y H Q => ∃ p xs i v, x = .ref p ∧ y = .int i ∧ SqL K H p xs ∧ atI xs i = some v ∧ Q v H
def rIxT (K : PySem.W.Frag) : R2 := fun x y H Q => ∃ p xs i v, x = .ref p ∧ y = .int i ∧ SqT K H p xs ∧ atI xs i = some v ∧ Q v H
def rIxS : R2 := fun x y H Q => ∃ z i c, x = .str z ∧ y = .int i ∧ z.length ≤ sizeLine ∧ atI z.cps.toList i = some c ∧ Q (.str ⟨#[c]⟩) H
theorem zaI : IxR X (rIxL X.K) := by
 intro value slice pins s σ H x y v u Q I rx ry h hs
 obtain ⟨p, xs, i, z, rfl, rfl, hq, he, q⟩ := h
 cases rx
 obtain ⟨t, rfl⟩ := ry
 obtain ⟨its, r, pl, hz⟩ := I.list hq
 obtain ⟨j, h1, h2, h3, h4, h5⟩ := zg2 he
 obtain ⟨w, ew, rw'⟩ := r.get h2
 have hl := r.length
 have hn := zd3
 have fin : EP X pins σ Q w s := ⟨z, H, I, rw', q⟩
 by_cases h0 : 0 ≤ i
 · have hj : i.toNat = j := by
    rw [seqIndex_of h0 h5] at h1
    exact Option.some.inj h1
   exact item_listR pl.isList h0 (by omega) (by rw [hj]; simpa using ew) fin hs
 · have hj : (i + (its.toArray.size : Int)).toNat = j := by
    rw [seqIndex_neg (by omega) h4] at h1
    rw [List.size_toArray, ← hl]
    exact Option.some.inj h1
   exact subscriptTail_builtinR (x := w) pl.isList.typeIs slot_list_getitem.lookup
    (wpAny_getItem_list_neg (Q := fun r s' => r = w ∧ EP X pins σ Q r s') pl.isList (by omega) (by rw [List.size_toArray] <;> omega) (by omega) (by rw [hj]; simpa using ew) ⟨rfl, fin⟩) hs
theorem za9 : IxR X (rIxT X.K) := by
 intro value slice pins s σ H x y v u Q I rx ry h hs
 obtain ⟨p, xs, i, z, rfl, rfl, hq, he, q⟩ := h
 cases rx
 obtain ⟨t, rfl⟩ := ry
 obtain ⟨its, r, pl, hz⟩ := I.tuple hq
 obtain ⟨j, h1, h2, h3, h4, h5⟩ := zg2 he
 obtain ⟨w, ew, rw'⟩ := r.get h2
 have hl := r.length
 have hn := zd3
 have fin : EP X pins σ Q w s := ⟨z, H, I, rw', q⟩
 exact subscriptTail_builtinR (x := w) pl.typeIs slot_tuple_getitem.lookup
  (getItem_tuple (j := j) (Q := fun r s' => r = w ∧ EP X pins σ Q r s') pl (by omega) (by omega) (by rw [List.size_toArray, ← hl]; exact h1) (by simpa using ew) ⟨rfl, fin⟩) hs
theorem zkp : IxR X rIxS := by
 intro value slice pins s σ H x y v u Q I rx ry h hs
 obtain ⟨z, i, c, rfl, rfl, hz, he, q⟩ := h
 obtain ⟨t, rfl⟩ := rx
 obtain ⟨t', rfl⟩ := ry
 obtain ⟨j, h1, h2, h3, h4, h5⟩ := zg2 he
 have hl : z.cps.toList.length = z.length := by simp [Str.length]
 rw [hl] at h1 h4 h5
 have hn := zd3
 exact tail_any (typeIs_str s z t) slot_str_getitem.lookup (getItem_str (c := c) (by
  have e1 : decide (i < -(2 ^ 63 : Int)) = false := decide_eq_false (by omega)
  have e2 : decide (i ≥ 2 ^ 63) = false := decide_eq_false (by omega)
  rw [e1, e2, Bool.or_false]) (by rw [h1]; simpa using h2) ⟨.str ⟨#[c]⟩, H, I.tok _, ⟨_, rfl⟩, q⟩) hs
theorem zhX (its : List Value) (n j : Nat) (u : Value) : Obj.mapSeq (·.setIfInBounds j u) { cls := .type "list", data := .seq its.toArray n } = { cls := .type "list", data := .seq (its.set j u).toArray n } := by
 simp [Obj.mapSeq]
theorem Inv.lst {pins : List (Addr × Obj)} {σ : St} {H : Hp} {s : Shared} {p : Addr} {xs : List V} (I : Inv X pins σ H s) (h : H p = some (.lst xs)) :
 ∃ (its : List Value) (n : Nat), Vals xs its ∧ s.heap.get? p = some { cls := .type "list", data := .seq its.toArray n } ∧ xs.length ≤ sizeLine := by
 obtain ⟨z, its, n, r, e⟩ := I.hok p _ h
 exact ⟨its, n, r, e, z⟩
theorem Inv.lstUpd {pins : List (Addr × Obj)} {σ : St} {H : Hp} {s : Shared} {p : Addr} {xs ys : List V} {its its' : List Value} {n n' : Nat} {f : Obj → Obj} (I : Inv X pins σ H s) (h : H p = some (.lst xs))
 (ho : s.heap.get? p = some { cls := .type "list", data := .seq its.toArray n }) (hf : f { cls := .type "list", data := .seq its.toArray n } = { cls := .type "list", data := .seq its'.toArray n' }) (r : Vals ys its') (hz : ys.length ≤ sizeLine) (t : Nat) :
 Inv X pins σ (upd H p (.lst ys)) { s with heap := s.heap.update p f, toks := t } := by
 have e : (s.heap.update p f).get? p = some { cls := .type "list", data := .seq its'.toArray n' } := by
  rw [Heap.get?_update_self f ho (by rw [hf] <;> rfl), hf]
 refine I.write (x := p) (e := p) (by rw [h]; trivial) (.inl rfl) (fun b u hb q => (Heap.get?_update_other _ _ (Ne.symm hb)).trans q) ⟨_, e⟩ ?_
 exact ⟨hz, its', n', r, e⟩
def zl2 : V → V → V → Hp → (Hp → Prop) → Prop := fun o i v H Q => ∃ p xs k j, o = .ref p ∧ i = .int k ∧ H p = some (.lst xs) ∧ ixN xs.length k = some j ∧ Q (upd H p (.lst (xs.set j v)))
theorem zeE : PSet X zl2 := by
 intro pins s σ H o i v ov iv u Q I ro ri rv h
 obtain ⟨p, xs, k, j, rfl, rfl, hp, hj, q⟩ := h
 cases ro
 obtain ⟨t, rfl⟩ := ri
 obtain ⟨its, n, r, ho, hz⟩ := I.lst hp
 obtain ⟨h1, h2, h3, h4⟩ := zgU hj
 have hl := r.length
 have hn := zd3
 have I' : Inv X pins σ (upd H p (.lst (xs.set j v))) { s with heap := s.heap.update p (Obj.mapSeq (·.setIfInBounds j u)) } :=
  I.lstUpd hp ho (zhX its n j u) (r.set rv j) (by rw [List.length_set]; exact hz) s.toks
 by_cases h0 : 0 ≤ k
 · have hk : k.toNat = j := by
    rw [seqIndex_of h0 h4] at h1
    exact Option.some.inj h1
   exact PySem.W.ki_setAt ho h0 (by omega) (by rw [List.size_toArray, ← hl]; exact h4) (by rw [hk]; exact ⟨_, I', q⟩)
 · have hk : (k + (its.toArray.size : Int)).toNat = j := by
    rw [seqIndex_neg (by omega) h3] at h1
    rw [List.size_toArray, ← hl]
    exact Option.some.inj h1
   exact PySem.W.ki_setBack ho (by omega) (by rw [List.size_toArray, ← hl]; exact h3) (by omega) (by rw [hk]; exact ⟨_, I', q⟩)
theorem zfm (lo hi : Option Int) (n : Nat) : (sliceBounds lo hi none n).1 = ((HT.sIx n 0 lo : Nat) : Int) ∧ (sliceBounds lo hi none n).2.1 = ((HT.sIx n n hi : Nat) : Int) ∧ (sliceBounds lo hi none n).2.2 = 1 := by
 refine ⟨?_, ?_, rfl⟩
 · cases lo with
   | none => simp [sliceBounds, HT.sIx]
   | some i =>
    simp only [sliceBounds, HT.sIx, Option.getD_none, show (1 : Int) > 0 by decide, if_true]
    by_cases h : i < 0
    · simp only [h, if_true] <;> omega
    · simp only [h, if_false] <;> omega
 · cases hi with
   | none => simp [sliceBounds, HT.sIx]
   | some i =>
    simp only [sliceBounds, HT.sIx, Option.getD_none, show (1 : Int) > 0 by decide, if_true]
    by_cases h : i < 0
    · simp only [h, if_true] <;> omega
    · simp only [h, if_false] <;> omega
theorem zeB (its : List Value) (lo hi : Option Int) : slicePick its.toArray lo hi none = ((its.drop (HT.sIx its.length 0 lo)).take (HT.sIx its.length its.length hi - HT.sIx its.length 0 lo)).toArray := by
 obtain ⟨h1, h2, h3⟩ := zfm lo hi its.toArray.size
 unfold slicePick
 rw [h1, h2, h3]
 simp only [sliceRange_one, pick_run, List.size_toArray] <;> rfl
def rSlL (K : PySem.W.Frag) : V → Option Int → Option Int → Hp → VK → Prop := fun x lo hi H Q => ∃ a xs, x = .ref a ∧ SqL K H a xs ∧ ∀ p, H p = none → Q (.ref p) (upd H p (.lst (cutV xs lo hi)))
theorem zeD : SlR X (rSlL X.K) := by
 intro pins s σ H x v vl vu lo hi sl Q I rx hs pl pu h
 obtain ⟨a, xs, rfl, hx, q⟩ := h
 cases rx
 obtain ⟨its, r, ht, hz⟩ := I.list hx
 have hlen := r.length
 refine ⟨"list", _, slot_list_getitem.lookup, ht.isList.typeIs, ?_⟩
 refine wpAny_getItem_list_slice ht.isList hs pl pu .none (by simp) ?_ (by rw [List.size_toArray] <;> omega)
 rw [zeB, ← hlen]
 refine ⟨.ref s.heap.objs.size, _, I.laid (t' := s.toks) (o := .lst (cutV xs lo hi)) (fun b ob q => Heap.get?_push_of_some _ q) (Nat.le_refl _) ?_, rfl, q _ (I.hok.fresh (Nat.le_refl _))⟩
 exact ⟨Nat.le_trans (zd7 xs lo hi) hz, _, 0, (r.drop (HT.sIx xs.length 0 lo)).take (HT.sIx xs.length xs.length hi - HT.sIx xs.length 0 lo), Heap.get?_push_size _ rfl⟩
def ze0 : V → Bool
 | .non => true
 | .bl _ => true
 | .int _ => true
 | .str _ => true
 | _ => false
def eqV : V → V → Bool
 | .non, .non => true
 | .bl a, .bl b => a == b
 | .bl a, .int b => (if a then 1 else 0) == b
 | .int a, .bl b => a == (if b then 1 else 0)
 | .int a, .int b => a == b
 | .str a, .str b => a == b
 | _, _ => false
theorem zlK {A : Around} {s : Shared} {y x : V} {u v : Value} (ry : RelV y u) (rx : RelV x v) (fy : ze0 y = true) (fx : ze0 x = true) : SeqAt.EqAt A s u v (eqV y x) := by
 cases y with
 | non =>
  cases ry
  cases x with
  | non => cases rx; exact SeqAt.EqAt.same _
  | bl b => cases rx; exact SeqAt.EqAt.none_bool b
  | int b => obtain ⟨t, rfl⟩ := rx; exact SeqAt.EqAt.none_int b t
  | str b => obtain ⟨t, rfl⟩ := rx; exact SeqAt.EqAt.none_str b t
  | _ => exact absurd (show false = true from fx) Bool.false_ne_true
 | bl a =>
  cases ry
  cases x with
  | non => cases rx; exact SeqAt.EqAt.bool_none a
  | bl b => cases rx; exact SeqAt.EqAt.bool_bool a b
  | int b => obtain ⟨t, rfl⟩ := rx; exact SeqAt.EqAt.bool_int a b t
  | str b => obtain ⟨t, rfl⟩ := rx; exact SeqAt.EqAt.bool_str a b t
  | _ => exact absurd (show false = true from fx) Bool.false_ne_true
 | int a =>
  obtain ⟨t', rfl⟩ := ry
  cases x with
  | non => cases rx; exact SeqAt.EqAt.int_none a t'
  | bl b => cases rx; exact SeqAt.EqAt.int_bool a t' b
  | int b => obtain ⟨t, rfl⟩ := rx; exact SeqAt.EqAt.int_int a t' b t
  | str b => obtain ⟨t, rfl⟩ := rx; exact SeqAt.EqAt.int_str a t' b t
  | _ => exact absurd (show false = true from fx) Bool.false_ne_true
 | str a =>
  obtain ⟨t', rfl⟩ := ry
  cases x with
  | non => cases rx; exact SeqAt.EqAt.str_none a t'
  | bl b => cases rx; exact SeqAt.EqAt.str_bool a t' b
  | int b => obtain ⟨t, rfl⟩ := rx; exact SeqAt.EqAt.str_int a t' b t
  | str b => obtain ⟨t, rfl⟩ := rx; exact SeqAt.EqAt.str_str a t' b t
  | _ => exact absurd (show false = true from fx) Bool.false_ne_true
 | _ => exact absurd (show false = true from fy) Bool.false_ne_true
def eqU (x : V) (u : Value) : Bool := match u with
 | .none => eqV .non x
 | .bool b => eqV (.bl b) x
 | .int i _ => eqV (.int i) x
 | .str z _ => eqV (.str z) x
 | _ => false
theorem zkq {x y : V} {u : Value} (r : RelV y u) (f : ze0 y = true) : eqU x u = eqV y x := by
 cases y with
 | non => cases r; rfl
 | bl b => cases r; rfl
 | int i => obtain ⟨t, rfl⟩ := r; rfl
 | str z => obtain ⟨t, rfl⟩ := r; rfl
 | _ => exact absurd (show false = true from f) Bool.false_ne_true
theorem zg3 {x : V} : ∀ {xs : List V} {us : List Value}, Vals xs us → xs.all ze0 = true → us.any (eqU x) = xs.any fun y => eqV y x
 | _, _, .nil, _ => rfl
 | y :: xs, u :: us, .cons r t, f => by
  rw [List.all_cons, Bool.and_eq_true] at f
  rw [List.any_cons, List.any_cons, zkq r f.1, zg3 t f.2]
theorem zeX {A : Around} {s : Shared} {x : V} {v : Value} (rx : RelV x v) (fx : ze0 x = true) : ∀ {xs : List V} {us : List Value}, Vals xs us → xs.all ze0 = true → ∀ u ∈ us, SeqAt.EqAt A s u v (eqU x u)
 | _, _, .nil, _ => fun u hu => by cases hu
 | y :: xs, u :: us, .cons r t, f => fun u' hu => by
  rw [List.all_cons, Bool.and_eq_true] at f
  rcases List.mem_cons.mp hu with rfl | hu
  · rw [zkq r f.1]; exact zlK r rx f.1 fx
  · exact zeX rx fx t f.2 u' hu
def inV (x : V) (xs : List V) : Bool := xs.any fun y => eqV y x
def rIn (K : PySem.W.Frag) (neg : Bool) : R2 := fun x y H Q => ∃ p xs, y = .ref p ∧ (SqL K H p xs ∨ SqT K H p xs) ∧ ze0 x = true ∧ xs.all ze0 = true ∧ Q (.bl (if neg then !inV x xs else inV x xs)) H
theorem zfA : OpR X (compareOp .NotIn) (rIn X.K true) := by
 intro pins s σ H x y v u Q I rx ry h
 obtain ⟨p, xs, rfl, hq, fx, fs, q⟩ := h
 cases ry
 rcases hq with hq | hq
 · obtain ⟨its, r, pl, hz⟩ := I.list hq
   refine SeqAt.notIn_listAt (eqU x) pl.isList (fun w hw => zeX rx fx r fs w (by simpa using hw)) ⟨.bl _, H, I, rfl, ?_⟩
   rw [show its.toArray.any (eqU x) = its.any (eqU x) by simp, zg3 r fs]
   exact q
 · obtain ⟨its, r, pl, hz⟩ := I.tuple hq
   refine SeqAt.notIn_tupleAt (eqU x) pl (fun w hw => zeX rx fx r fs w (by simpa using hw)) ⟨.bl _, H, I, rfl, ?_⟩
   rw [show its.toArray.any (eqU x) = its.any (eqU x) by simp, zg3 r fs]
   exact q
theorem zfz : OpR X (compareOp .NotIn) (fun x y H Q => ∃ i j, x = .str i ∧ y = .str j ∧ Q (.bl (!(!(Builtin.Str.occurrences j i 0 j.length 1).isEmpty))) H) := by
 intro pins s σ H x y v u Q I rx ry h
 obtain ⟨i, j, rfl, rfl, q⟩ := h
 obtain ⟨t, rfl⟩ := rx
 obtain ⟨t', rfl⟩ := ry
 exact notIn_str ⟨.bl _, H, I, rfl, q⟩
theorem zau : zcQ X (.builtin "len") (fun xs H Q => ∃ p ys, xs = [.ref p] ∧ (SqL X.K H p ys ∨ SqT X.K H p ys) ∧ Q (.int ys.length) H) := by
 intro pins s σ H xs us Q I r h
 obtain ⟨p, ys, rfl, hq, q⟩ := h
 obtain ⟨u, rfl, rx⟩ := zcR r
 cases rx
 have hn := zd3
 rcases hq with hq | hq
 · obtain ⟨its, r', pl, hz⟩ := I.list hq
   have hlen := r'.length
   exact Calls.call_len_list pl.isList (by simp only [List.size_toArray] <;> omega) ⟨.int ys.length, H, I.tok _, ⟨s.toks + 1, by rw [List.size_toArray, hlen]⟩, q⟩
 · obtain ⟨its, r', pl, hz⟩ := I.tuple hq
   have hlen := r'.length
   exact len_tuple pl (by simp only [List.size_toArray] <;> omega) ⟨.int ys.length, H, I.tok _, ⟨s.toks + 1, by rw [List.size_toArray, hlen]⟩, q⟩
theorem zcp : zcQ X (.builtin "len") (fun xs H Q => ∃ z, xs = [.str z] ∧ z.length ≤ sizeLine ∧ Q (.int z.length) H) := by
 intro pins s σ H xs us Q I r h
 obtain ⟨z, rfl, hz, q⟩ := h
 obtain ⟨u, rfl, t, rfl⟩ := zcR r
 have hn := zd3
 exact len_str (by omega) ⟨.int z.length, H, I.tok _, ⟨_, rfl⟩, q⟩
theorem zdw : zcQ X (.type "list") (fun xs H Q => ∃ p ys, xs = [.ref p] ∧ (SqL X.K H p ys ∨ SqT X.K H p ys) ∧ ∀ l, H l = none → Q (.ref l) (upd H l (.lst ys))) := by
 intro pins s σ H xs us Q I r h
 obtain ⟨p, ys, rfl, hq, q⟩ := h
 obtain ⟨u, rfl, rx⟩ := zcR r
 cases rx
 have fin : ∀ (its : List Value), Vals ys its → ys.length ≤ sizeLine → ∀ (h' : Heap) (c' : Nat), (∀ b o', s.heap.get? b = some o' → h'.get? b = some o') →
  h'.get? s.heap.objs.size = some { cls := .type "list", dict := none, data := .seq its.toArray c', slots := #[] } → EP X pins σ Q (.ref s.heap.objs.size) { s with heap := h' } := fun its r' hz h' c' kp e =>
  ⟨.ref s.heap.objs.size, _, I.laid (t' := s.toks) kp (Nat.le_refl _) (show ObjOk X.prog X.w _ h' _ (.lst ys) from ⟨hz, its, c', r', e⟩), rfl, q _ (I.hok.fresh (Nat.le_refl _))⟩
 rcases hq with hq | hq
 · obtain ⟨its, r', pl, hz⟩ := I.list hq
   have hlen := r'.length
   obtain ⟨o, ho, hc, n, hd⟩ := pl.isList
   exact call_list_seq p (.inl rfl) ho hc hd (fun h' c' kp e => fin its r' hz h' c' kp e) (by simp only [List.size_toArray] <;> omega)
 · obtain ⟨its, r', pl, hz⟩ := I.tuple hq
   have hlen := r'.length
   obtain ⟨o, ho, hc, n, hd⟩ := pl
   exact call_list_seq p (.inr rfl) ho hc hd (fun h' c' kp e => fin its r' hz h' c' kp e) (by simp only [List.size_toArray] <;> omega)
theorem zcc : zcQ X (.type "tuple") (fun xs H Q => ∃ p ys, xs = [.ref p] ∧ ((SqL X.K H p ys ∧ ∀ l, H l = none → Q (.ref l) (upd H l (.tup ys))) ∨ (SqT X.K H p ys ∧ Q (.ref p) H))) := by
 intro pins s σ H xs us Q I r h
 obtain ⟨p, ys, rfl, h⟩ := h
 obtain ⟨u, rfl, rx⟩ := zcR r
 cases rx
 rcases h with ⟨hq, q⟩ | ⟨hq, q⟩
 · obtain ⟨its, r', pl, hz⟩ := I.list hq
   have hlen := r'.length
   refine call_tuple_list pl.isList (fun h' kp => ?_) (by simp only [List.size_toArray] <;> omega)
   have I1 : Inv X pins σ H { s with heap := h' } := I.kept (t' := s.toks) kp
   have I2 : Inv X pins σ (upd H h'.objs.size (.tup ys)) { s with heap := h'.push { cls := .type "tuple", data := .seq its.toArray } } :=
    I1.laid (t' := s.toks) (fun b o e => Heap.get?_push_of_some _ e) (Nat.le_refl _) (show ObjOk X.prog X.w _ _ _ (.tup ys) from ⟨hz, its, r', IsTupP.new _ _⟩)
   exact ⟨.ref h'.objs.size, _, I2, rfl, q _ (I1.hok.fresh (Nat.le_refl _))⟩
 · obtain ⟨its, r', pl, hz⟩ := I.tuple hq
   exact call_tuple_same pl ⟨.ref p, H, I, rfl, q⟩
def tyV (K : PySem.W.Frag) (T : String) (x : V) (H : Hp) : Prop := match x with
 | .str _ => T = "str"
 | .int _ => T = "int"
 | .ref p => (T = "list" ∧ ∃ xs, SqL K H p xs) ∨ (T = "tuple" ∧ ∃ o, K.lookup p = some o ∧ o.cls = .type "tuple" ∧ o.dict = none) ∨
  (T = "dict" ∧ ((∃ kvs, H p = some (.dK kvs)) ∨ ∃ kvs, H p = some (.dT kvs))) ∨ (T = "set" ∧ ∃ S n, H p = some (.set S n))
 | _ => False
theorem zlb {pins : List (Addr × Obj)} {σ : St} {H : Hp} {s : Shared} {T : String} {x : V} {v : Value} (I : Inv X pins σ H s) (r : RelV x v) (ty : tyV X.K T x H) :
 s.TypeIs v T ∧ ∀ a, v = .ref a → ∃ ob, s.heap.get? a = some ob ∧ ob.dict = none := by
 cases x with
 | str z =>
  obtain ⟨t, rfl⟩ := r
  cases (show T = "str" from ty)
  exact ⟨typeIs_str s z t, fun _ e => nomatch e⟩
 | int i =>
  obtain ⟨t, rfl⟩ := r
  cases (show T = "int" from ty)
  exact ⟨typeIs_int s i t, fun _ e => nomatch e⟩
 | ref p =>
  cases r
  rcases ty with ⟨rfl, xs, hq⟩ | ⟨rfl, o, hk, hc, hd⟩ | ⟨rfl, hk⟩ | ⟨rfl, S, n, hk⟩
  · obtain ⟨its, _, pl, _⟩ := I.list hq
    refine ⟨pl.isList.typeIs, fun a e => ?_⟩
    cases e
    obtain ⟨o, n, e, c, hd, _⟩ := pl
    exact ⟨o, e, hd⟩
  · refine ⟨⟨o, I.kIn p o hk, hc⟩, fun a e => ?_⟩
    cases e
    exact ⟨o, I.kIn _ o hk, hd⟩
  · have z : ∃ o, s.heap.get? p = some o ∧ o.ExactDict := by
     rcases hk with ⟨kvs, hk⟩ | ⟨kvs, hk⟩
     · obtain ⟨_, _, _, _, o, _, _, e, ex, _⟩ := I.hok p _ hk
       exact ⟨o, e, ex⟩
     · obtain ⟨_, _, _, _, o, _, _, e, ex, _⟩ := I.hok p _ hk
       exact ⟨o, e, ex⟩
    obtain ⟨o, e, ex⟩ := z
    refine ⟨⟨o, e, ex.1⟩, fun a e2 => ?_⟩
    cases e2
    exact ⟨o, e, ex.2.1⟩
  · obtain ⟨o, _, _, _, e, ex, _⟩ := I.hok p _ hk
    refine ⟨⟨o, e, ex.1⟩, fun a e2 => ?_⟩
    cases e2
    exact ⟨o, e, ex.2.1⟩
 | _ => exact False.elim ty
def tBM (K : PySem.W.Frag) (T : String) (r : V → List V → Hp → VK → Prop) (to : TE) (t : TA) : TE := fun σ H Q => to σ H fun x H1 => tyV K T x H1 ∧ t σ H1 fun xs H2 => r x xs H2 Q
variable {o e : Expr} {es : List Expr} {to : TE} {t : TA} {name : Str} {apos cpos : Pos} {T id : String} {r : V → List V → Hp → VK → Prop}
theorem zhK (pa : PlainAttrs T) (slot : Slot T name id) (hty : typeOf (.builtin id) = pure (.type "method_descriptor")) (hm : MtR X id r) (ho : PE X o to) (ha : PA X (e :: es) t)
 (hbase : attributeBase o name X.env (eval o X.env) = eval o X.env := by rfl)
 (hfew : ((backTo cpos (starEach (e :: es) X.env)).all (fun x => !x.1) && (backToKw cpos (keywordEach [] X.env)).all (fun x => x.1.isSome)
  && decide ((e :: es).length + ([] : List Keyword).length + (if ([] : List Keyword).isEmpty then 0 else 1) < 30)) = true := by rfl)
 (hline : (apos.endLine == cpos.line) = true := by rfl) (hs : starEach (e :: es) X.env = (false, eval e X.env) :: starEach es X.env := by rfl) (hplain : (backTo cpos (starEach es X.env)).any (·.1) = false := by rfl) :
 PE X (.Call (.Attribute o name apos) (e :: es) [] cpos) (tBM X.K T r to t) := by
 intro pins s σ H Q I h
 refine wpAny_Call_method_late hbase hfew hline rfl (thn (ho pins s σ H _ I h) fun v s1 ⟨x, H1, I1, r1, ty, q1⟩ => ?_)
 obtain ⟨h1, h2⟩ := zlb I1 r1 ty
 refine ⟨T, id, pa, slot, hty, h1, h2, ?_⟩
 have hA := ha cpos pins s1 σ H1 _ I1 q1
 rw [hs] at hA ⊢
 refine Calls.callWith_builtin (by show (false || (backTo cpos (starEach es X.env)).any (·.1)) = false; rw [hplain] <;> rfl) (Calls.evalArgs_plain ?_)
 exact thn hA fun us s2 ⟨vs, H2, I2, r2, q2⟩ => hm pins s2 σ H2 x vs v us Q I2 r1 r2 q2
end
def MtM (X : Cx) (id : String) (r : V → List V → Hp → VK → Prop) : Prop :=
 ∀ (pins : List (Addr × Obj)) (s : Shared) (σ : St) (H : Hp) (x : V) (xs : List V) (v : Value) (us : List Value) (Q : VK), Inv X pins σ H s → RelV x v → Vals xs us → r x xs H Q →
  wpAny (model X.prog X.w) X.A (call (.builtin id) (v :: us)) (EP X pins σ Q) X.xe s
theorem Vals.one : ∀ {x : V} {us : List Value}, Vals [x] us → ∃ u, us = [u] ∧ RelV x u
 | _, _, .cons r .nil => ⟨_, rfl, r⟩
theorem Vals.eraseIdx : ∀ {xs : List V} {us : List Value} (i : Nat), Vals xs us → Vals (xs.eraseIdx i) (us.eraseIdx i)
 | _, _, _, .nil => .nil
 | _, _, 0, .cons _ t => t
 | _, _, i + 1, .cons r t => .cons r (Vals.eraseIdx i t)
theorem zfL {α : Type} : ∀ (l : List α) (i : Nat), (l.eraseIdx i).length ≤ l.length
 | [], _ => Nat.le_refl _
 | _ :: _, 0 => Nat.le_succ _
 | _ :: r, i + 1 => Nat.succ_le_succ (zfL r i)
section
variable {X : Cx} {pins : List (Addr × Obj)} {σ : St} {H : Hp} {s : Shared} {l b : Addr} {xs ys zs : List V}
theorem Inv.lset {its its' : List Value} {n : Nat} {f : Array Value → Array Value} {t' : Nat} (I : Inv X pins σ H s) (hH : H l = some (.lst xs))
 (e : s.heap.get? l = some { cls := .type "list", data := .seq its.toArray n }) (hf : f its.toArray = its'.toArray) (hv : Vals ys its') (hz : ys.length ≤ sizeLine) :
 Inv X pins σ (upd H l (.lst ys)) { s with heap := s.heap.update l (Obj.mapSeq f), toks := t' } := by
 have q := PySem.IsL.update e f
 rw [hf] at q
 refine I.write (x := l) (e := l) (by rw [hH]; exact trivial) (.inl rfl) (fun b' u hb hu => (Heap.get?_update_other s.heap (Obj.mapSeq f) (Ne.symm hb)).trans hu) ⟨_, q⟩ ?_
 exact ⟨hz, its', _, hv, q⟩
theorem Inv.lnew {its : List Value} {t' : Nat} (I : Inv X pins σ H s) (hv : Vals ys its) (hz : ys.length ≤ sizeLine) :
 Inv X pins σ (upd H s.heap.objs.size (.lst ys)) { s with heap := s.heap.push { cls := .type "list", data := .seq its.toArray }, toks := t' } :=
 I.laid (fun _ _ q => Heap.get?_push_of_some _ q) (Nat.le_refl _) ⟨hz, its, 0, hv, Heap.get?_push_size _ rfl⟩
theorem Inv.fresh (I : Inv X pins σ H s) : H s.heap.objs.size = none := I.hok.fresh (Nat.le_refl _)
theorem Inv.lstM (I : Inv X pins σ H s) (hH : H l = some (.lst xs)) : xs.length ≤ sizeLine ∧ ∃ (its : List Value) (n : Nat), Vals xs its ∧ xs.length = its.length ∧ s.heap.get? l = some { cls := .type "list", data := .seq its.toArray n } := by
 obtain ⟨z, its, n, r, e⟩ := I.hok l _ hH
 exact ⟨z, its, n, r, r.length, e⟩
theorem notLongL {n : Nat} (h : n ≤ sizeLine) : Builtin.List.listTooLong n = false := by
 unfold Builtin.List.listTooLong
 exact decide_eq_false (by omega)
end
section
variable {X : Cx}
def zkP : V → List V → Hp → VK → Prop := fun x vs H Q => ∃ l xs y, x = .ref l ∧ vs = [y] ∧ H l = some (.lst xs) ∧ xs.length < sizeLine ∧ Q .non (upd H l (.lst (xs ++ [y])))
theorem zbU : MtM X "list.append" zkP := by
 intro pins s σ H x vs v us Q I rx rv h
 obtain ⟨l, xs, y, rfl, rfl, hH, hz, q⟩ := h
 cases rx
 obtain ⟨u, rfl, ru⟩ := rv.one
 obtain ⟨z, its, n, r, hl, e⟩ := I.lstM hH
 refine call_meets F.slot_list_append ⟨_, e, rfl⟩ F.entry_list_append (F.args_list_append_2 _ _) (PySem.list_append l its.toArray n u (by rw [List.size_toArray]; omega)) ⟨e, ?_⟩
 refine ⟨.non, _, I.lset (its' := its ++ [u]) hH e (by simp) (r.append (.cons ru .nil)) ?_, rfl, q⟩
 rw [List.length_append, List.length_singleton]
 omega
def zln : V → List V → Hp → VK → Prop := fun x vs H Q => ∃ l xs i k y, x = .ref l ∧ vs = [.int i] ∧ H l = some (.lst xs) ∧ -(2 ^ 63) ≤ i ∧ i < 2 ^ 63 ∧ seqIndex? i xs.length = some k ∧ xs[k]? = some y ∧ Q y (upd H l (.lst (xs.eraseIdx k)))
theorem zjT : MtM X "list.pop" zln := by
 intro pins s σ H x vs v us Q I rx rv h
 obtain ⟨l, xs, i, k, y, rfl, rfl, hH, h1, h2, hk, hy, q⟩ := h
 cases rx
 obtain ⟨u, rfl, ru⟩ := rv.one
 obtain ⟨t, rfl⟩ := ru
 obtain ⟨z, its, n, r, hl, e⟩ := I.lstM hH
 obtain ⟨w, hw, rw'⟩ := r.get hy
 refine call_meets F.slot_list_pop ⟨_, e, rfl⟩ F.entry_list_pop (F.args_list_pop_2 _ _)
  (MeetsSeq.list_pop_at l its.toArray n i t k w (fitsIndex_both h1 h2) (by rw [List.size_toArray, ← hl]; exact hk) (by rw [← Array.getElem?_toList]; exact hw) (by rw [List.size_toArray]; omega)) ⟨e, ?_⟩
 refine ⟨y, _, I.lset (its' := its.eraseIdx k) hH e ?_ (r.eraseIdx k) ?_, rw', q⟩
 · show its.toArray.eraseIdxIfInBounds k = (its.eraseIdx k).toArray
   rw [List.eraseIdxIfInBounds_toArray]
 · have := zfL xs k
   omega
def rCat : R2 := fun x y H Q => ∃ l b xs zs, x = .ref l ∧ y = .ref b ∧ H l = some (.lst xs) ∧ H b = some (.lst zs) ∧ xs.length + zs.length ≤ sizeLine ∧ ∀ p, H p = none → Q (.ref p) (upd H p (.lst (xs ++ zs)))
theorem zhi : OpR X (binaryOp .Add) rCat := by
 intro pins s σ H x y v u Q I rx ry h
 obtain ⟨l, b, xs, zs, rfl, rfl, hH, hB, hz, q⟩ := h
 cases rx
 cases ry
 obtain ⟨z, its, n, r, hl, e⟩ := I.lstM hH
 obtain ⟨z2, its2, n2, r2, hl2, e2⟩ := I.lstM hB
 refine PySem.P.add_list e e2 ?_ (by rw [List.size_toArray, List.size_toArray]; omega)
 have ea : its.toArray ++ its2.toArray = (its ++ its2).toArray := by simp
 rw [ea]
 exact ⟨.ref _, _, I.lnew (t' := s.toks) (r.append r2) (by rw [List.length_append]; omega), rfl, q _ I.fresh⟩
end
section
variable {prog : Program} {w : World} {A : Around} {E : Value → Shared → Prop} {s : Shared}
theorem bounds_run {a c n : Nat} (hac : a ≤ c) (hc : c ≤ n) : sliceBounds (some (a : Int)) (some (c : Int)) none n = ((a : Int), (c : Int), 1) := by
 simp only [sliceBounds, Option.getD_none]
 have h1 : ¬ ((a : Int) < 0) := by omega
 have h2 : ¬ ((c : Int) < 0) := by omega
 simp only [h1, h2, if_false, show (1 : Int) > 0 by decide, if_true]
 congr 1
 · omega
 · congr 1; omega
set_option maxRecDepth 100000 in
end
section
variable {X : Cx}
end
section
variable {κ : Type} [DecidableEq κ]
def valV (kvs : List (κ × V)) (k : κ) : Option V := (kvs.find? fun kv => decide (kv.1 = k)).map (·.2)
def putK (kvs : List (κ × V)) (k : κ) (v : V) : List (κ × V) :=
 if (kvs.any fun kv => decide (kv.1 = k)) = true then kvs.map (fun kv => if kv.1 = k then (kv.1, v) else kv) else kvs ++ [(k, v)]
theorem za4 {p : κ × V} {r : List (κ × V)} {k : κ} (e : p.1 = k) : valV (p :: r) k = some p.2 := by simp [valV, List.find?_cons, e]
theorem za5 {p : κ × V} {r : List (κ × V)} {k : κ} (e : ¬ p.1 = k) : valV (p :: r) k = valV r k := by simp [valV, List.find?_cons, e]
theorem zdB (k : κ) : ∀ kvs : List (κ × V), (kvs.any fun kv => decide (kv.1 = k)) = (valV kvs k).isSome
 | [] => rfl
 | p :: r => by
  rw [List.any_cons]
  by_cases e : p.1 = k
  · simp only [za4 e, decide_eq_true e, Bool.true_or, Option.isSome_some]
  · rw [za5 e, decide_eq_false e, Bool.false_or]; exact zdB k r
theorem zg9 (k j : κ) (y : V) : ∀ kvs : List (κ × V), valV (kvs.map fun kv => if kv.1 = k then (kv.1, y) else kv) j = (valV kvs j).map fun x => if j = k then y else x
 | [] => rfl
 | p :: r => by
  have ih := zg9 k j y r
  rw [List.map_cons]
  by_cases h : p.1 = k
  · rw [if_pos h]
    by_cases e : p.1 = j
    · rw [za4 (p := (p.1, y)) e, za4 e, Option.map_some, if_pos (e.symm.trans h)]
    · rw [za5 (p := (p.1, y)) e, za5 e, ih]
  · rw [if_neg h]
    by_cases e : p.1 = j
    · rw [za4 (p := p) e, za4 e, Option.map_some, if_neg (fun z => h (e.trans z))]
    · rw [za5 (p := p) e, za5 e, ih]
theorem zfc (k j : κ) (y : V) : ∀ kvs : List (κ × V), valV kvs k = none → valV (kvs ++ [(k, y)]) j = if j = k then some y else valV kvs j
 | [], _ => by
  by_cases e : k = j
  · rw [if_pos e.symm]; exact za4 (p := (k, y)) e
  · rw [if_neg (fun z => e z.symm)]; exact za5 (p := (k, y)) e
 | p :: r, hn => by
  rw [List.cons_append]
  have hk : ¬ p.1 = k := fun z => by rw [za4 z] at hn; cases hn
  rw [za5 hk] at hn
  have ih := zfc k j y r hn
  by_cases e : p.1 = j
  · rw [za4 e, za4 e, if_neg (fun z => hk (e.trans z))]
  · rw [za5 e, za5 e, ih]
theorem zeq (kvs : List (κ × V)) (k j : κ) (y : V) : valV (putK kvs k y) j = if j = k then some y else valV kvs j := by
 unfold putK
 by_cases a : (kvs.any fun kv => decide (kv.1 = k)) = true
 · rw [if_pos a, zg9]
   rw [zdB] at a
   by_cases e : j = k
   · obtain ⟨x, hx⟩ := Option.isSome_iff_exists.mp a
     rw [if_pos e, e, hx, Option.map_some, if_pos rfl]
   · rw [if_neg e]
     cases valV kvs j with
     | none => rfl
     | some x => rw [Option.map_some, if_neg e]
 · rw [if_neg a]
   refine zfc k j y kvs ?_
   rw [zdB] at a
   cases q : valV kvs k with
   | none => rfl
   | some x => rw [q] at a; exact (a rfl).elim
theorem zbz (kvs : List (κ × V)) (k : κ) (v : V) : (putK kvs k v).length ≤ kvs.length + 1 := by
 unfold putK
 split
 · rw [List.length_map]; omega
 · rw [List.length_append, List.length_cons, List.length_nil]; omega
theorem RelO.isSome_eq {o : Option V} {u : Option Value} (r : RelO o u) : o.isSome = u.isSome := by
 cases o with
 | none => cases u with
  | none => rfl
  | some _ => exact (show False from r).elim
 | some _ => cases u with
  | none => exact (show False from r).elim
  | some _ => rfl
theorem RelO.getD {o : Option V} {u : Option Value} {d : V} {d' : Value} (r : RelO o u) (rd : RelV d d') : RelV (o.getD d) (u.getD d') := by
 cases o with
 | none => cases u with
  | none => exact rd
  | some _ => exact (show False from r).elim
 | some _ => cases u with
  | none => exact (show False from r).elim
  | some _ => exact r
theorem KV.val {kvs : List (κ × V)} {vs : List (κ × Value)} (r : KV kvs vs) (k : κ) : RelO (valV kvs k) (valueAt vs k) := by
 unfold KV at r
 induction r with
 | nil => exact True.intro
 | @cons p q ps qs h t ih =>
  obtain ⟨h1, h2⟩ := h
  by_cases e : p.1 = k
  · have e' : q.1 = k := h1.symm.trans e
    have b : valueAt (q :: qs) k = some q.2 := by simp [valueAt, List.find?_cons, e']
    rw [za4 e, b]; exact h2
  · have e' : ¬ q.1 = k := fun z => e (h1.trans z)
    have b : valueAt (q :: qs) k = valueAt qs k := by simp [valueAt, List.find?_cons, e']
    rw [za5 e, b]; exact ih
theorem KV.any {kvs : List (κ × V)} {vs : List (κ × Value)} (r : KV kvs vs) (k : κ) : (kvs.any fun kv => decide (kv.1 = k)) = vs.any fun kv => decide (kv.1 = k) := by
 unfold KV at r
 induction r with
 | nil => rfl
 | cons h t ih => rw [List.any_cons, List.any_cons, ih, h.1]
theorem KV.repl {kvs : List (κ × V)} {vs : List (κ × Value)} (r : KV kvs vs) (k : κ) {y : V} {u : Value} (ry : RelV y u) :
 KV (kvs.map fun kv => if kv.1 = k then (kv.1, y) else kv) (vs.map fun kv => if kv.1 = k then (kv.1, u) else kv) := by
 unfold KV at r ⊢
 induction r with
 | nil => exact .nil
 | @cons p q ps qs h t ih =>
  rw [List.map_cons, List.map_cons]
  refine .cons ?_ ih
  obtain ⟨h1, h2⟩ := h
  by_cases e : p.1 = k
  · rw [if_pos e, if_pos (h1.symm.trans e)]; exact ⟨h1, ry⟩
  · rw [if_neg e, if_neg (fun z => e (h1.trans z))]; exact ⟨h1, h2⟩
theorem KV.put {kvs : List (κ × V)} {vs : List (κ × Value)} (r : KV kvs vs) (k : κ) {y : V} {u : Value} (ry : RelV y u) : KV (putK kvs k y) (stored vs k u) := by
 unfold putK stored
 rw [r.any k]
 by_cases e : (vs.any fun kv => decide (kv.1 = k)) = true
 · rw [if_pos e, if_pos e]; exact r.repl k ry
 · rw [if_neg e, if_neg e]; exact Paired.snoc r ⟨rfl, ry⟩
theorem KV.length {kvs : List (κ × V)} {vs : List (κ × Value)} (r : KV kvs vs) : kvs.length = vs.length := Paired.length r
end
theorem zgT {P : Program} {w : World} {k : Key} {u : Value} (r : RelV (kV k) u) : (zaE P w).is k u = true := by
 cases k with
 | inl i => obtain ⟨t, e⟩ := (show ∃ t, u = Value.int i t from r); subst e; exact zgO P w i t
 | inr x => obtain ⟨t, e⟩ := (show ∃ t, u = Value.str x t from r); subst e; exact zgN P w x t
theorem zfP {P : Program} {w : World} : ∀ {ks : List Key} {us : List Value}, Vals (ks.map kV) us → ItemsAre (zaE P w) ks us
 | [], _, r => by rw [List.map_nil] at r; cases r; exact .nil
 | k :: ks, _, r => by
  rw [List.map_cons] at r
  cases r with
  | cons h t => exact .cons (zgT h) (zfP t)
abbrev KT (H : Hp) : List (List Key × V) → List (List Key × Addr × Value) → Prop := Paired fun p q => p.1 = q.1 ∧ H q.2.1 = some (.tup (p.1.map kV)) ∧ RelV p.2 q.2.2
theorem KT.val {H : Hp} {kvs : List (List Key × V)} {xs : List (List Key × Addr × Value)} (r : KT H kvs xs) (k : List Key) : RelO (valV kvs k) ((atKey xs k).map (·.2)) := by
 induction r with
 | nil => exact True.intro
 | @cons p q ps qs h t ih =>
  obtain ⟨h1, _, h2⟩ := h
  by_cases e : p.1 = k
  · have e' : q.1 = k := h1.symm.trans e
    have b : atKey (q :: qs) k = some q.2 := by simp [atKey, List.find?_cons, e']
    rw [za4 e, b]; exact h2
  · have e' : ¬ q.1 = k := fun z => e (h1.trans z)
    have b : atKey (q :: qs) k = atKey qs k := by simp [atKey, List.find?_cons, e']
    rw [za5 e, b]; exact ih
theorem KT.repl {H : Hp} {kvs : List (List Key × V)} {xs : List (List Key × Addr × Value)} (r : KT H kvs xs) (k : List Key) {y : V} {u : Value} (ry : RelV y u) :
 KT H (kvs.map fun kv => if kv.1 = k then (kv.1, y) else kv) (xs.map (putAt k u)) := by
 induction r with
 | nil => exact .nil
 | @cons p q ps qs h t ih =>
  rw [List.map_cons, List.map_cons]
  refine .cons ?_ ih
  obtain ⟨h1, h2, h3⟩ := h
  unfold putAt
  by_cases e : p.1 = k
  · rw [if_pos e, if_pos (h1.symm.trans e)]; exact ⟨h1, h2, ry⟩
  · rw [if_neg e, if_neg (fun z => e (h1.trans z))]; exact ⟨h1, h2, h3⟩
theorem KT.put {H : Hp} {kvs : List (List Key × V)} {xs : List (List Key × Addr × Value)} (r : KT H kvs xs) (k : List Key) {b : Addr} {y : V} {u : Value} (hb : H b = some (.tup (k.map kV))) (ry : RelV y u) :
 KT H (putK kvs k y) (storedH xs k b u) := by
 have e : (kvs.any fun kv => decide (kv.1 = k)) = (atKey xs k).isSome := by
  rw [zdB, (r.val k).isSome_eq, Option.isSome_map]
 unfold putK storedH
 rw [e]
 by_cases q : (atKey xs k).isSome = true
 · rw [if_pos q, if_pos q]; exact r.repl k ry
 · rw [if_neg q, if_neg q]; exact Paired.snoc r ⟨rfl, hb, ry⟩
theorem KT.keeps {H H' : Hp} {kvs : List (List Key × V)} {xs : List (List Key × Addr × Value)} (r : KT H kvs xs) (ht : ∀ b ys, H b = some (.tup ys) → H' b = some (.tup ys)) : KT H' kvs xs :=
 Paired.mapP r fun _ _ z => ⟨z.1, ht _ _ z.2.1, z.2.2⟩
section
variable {P : Program} {w : World} {H : Hp} {h : Heap} {a : Addr}
theorem zll {u : HO} (ok : HOk P w H h) (e : Rd H a u) : ObjOk P w H h a u := e.ok ok
theorem zh3 {kvs : List (Key × V)} (ok : HOk P w H h) (e : Rd H a (.dK kvs)) : kvs.length ≤ sizeLine ∧ (a == sysModules) = false ∧ ∃ vs, KV kvs vs ∧ h.DictOf (zaE P w) a vs :=
 show ObjOk P w H h a (.dK kvs) from zll ok e
theorem zd5 {kvs : List (Key × V)} (ok : HOk P w H h) (e : H a = some (.dK kvs)) : kvs.length ≤ sizeLine ∧ (a == sysModules) = false ∧ ∃ vs, KV kvs vs ∧ h.DictOf (zaE P w) a vs := zh3 ok (.inl e)
theorem zfO {ks : List Key} (ok : HOk P w H h) (e : H a = some (.tup (ks.map kV))) : (tupleKind (zaE P w)).is h ks a := by
 obtain ⟨_, its, r, o, h1, h2, _, n, h3⟩ := (show ObjOk P w H h a (.tup (ks.map kV)) from ok a _ e)
 exact ⟨o, its.toArray, n, h1, h2, h3, by simpa using zfP r⟩
theorem zh2 {kvs : List (List Key × V)} (ok : HOk P w H h) (e : Rd H a (.dT kvs)) : kvs.length ≤ sizeLine ∧ (a == sysModules) = false ∧
 ∃ xs, KT H kvs xs ∧ h.DictOfH (tupleKind (zaE P w)) a xs := by
 obtain ⟨z, y, xs, r, o, es, ep, h1, h2, h3, h4, h5⟩ := (show ObjOk P w H h a (.dT kvs) from zll ok e)
 refine ⟨z, y, xs, r, o, es, ep, h1, h2, h3, h4, fun x hx => ?_, h5⟩
 have all : ∀ {l : List (List Key × V)} {m : List (List Key × Addr × Value)}, KT H l m → ∀ x ∈ m, (tupleKind (zaE P w)).is h x.1 x.2.1 := by
  intro l m q
  induction q with
  | nil => intro x hx; exact nomatch hx
  | @cons p q ps qs hq t ih =>
   intro x hx
   rcases List.mem_cons.mp hx with e | hx
   · subst e
     exact zfO ok (by rw [← hq.1]; exact hq.2.1)
   · exact ih x hx
 exact all r x hx
theorem zmd {kvs : List (List Key × V)} (ok : HOk P w H h) (e : H a = some (.dT kvs)) : kvs.length ≤ sizeLine ∧ (a == sysModules) = false ∧
 ∃ xs, KT H kvs xs ∧ h.DictOfH (tupleKind (zaE P w)) a xs := zh2 ok (.inl e)
end
def DGet (H : Hp) (a : Addr) (y : V) (r : Option V) : Prop :=
 (∃ kvs k, Rd H a (.dK kvs) ∧ y = kV k ∧ r = valV kvs k) ∨ ∃ kvs k b, Rd H a (.dT kvs) ∧ y = .ref b ∧ H b = some (.tup (k.map kV)) ∧ r = valV kvs k
def DPut (H : Hp) (a : Addr) (y v : V) (H' : Hp) : Prop :=
 (∃ kvs k, H a = some (.dK kvs) ∧ y = kV k ∧ kvs.length < sizeLine ∧ H' = upd H a (.dK (putK kvs k v))) ∨
 ∃ kvs k b, H a = some (.dT kvs) ∧ y = .ref b ∧ H b = some (.tup (k.map kV)) ∧ kvs.length < sizeLine ∧ H' = upd H a (.dT (putK kvs k v))
theorem DGet.k {H : Hp} {a : Addr} {kvs : List (Key × V)} {k : Key} (e : H a = some (.dK kvs)) : DGet H a (kV k) (valV kvs k) := .inl ⟨kvs, k, .inl e, rfl, rfl⟩
theorem DPut.k {H : Hp} {a : Addr} {kvs : List (Key × V)} {k : Key} {v : V} (e : H a = some (.dK kvs)) (hl : kvs.length < sizeLine) : DPut H a (kV k) v (upd H a (.dK (putK kvs k v))) := .inl ⟨kvs, k, e, rfl, hl, rfl⟩
section
variable {X : Cx} {pins : List (Addr × Obj)} {σ : St} {H : Hp} {s : Shared} {a : Addr} {y v : V} {u r : Value} {o : Option V} {A : Around} {E : Value → Shared → Prop}
theorem Inv.big (I : Inv X pins σ H s) : sysModules < s.heap.objs.size := by
 have h : mainGlobals < s.heap.objs.size := (I.mod.glob.keeps I.bk).lt
 exact Nat.lt_trans (by decide) h
theorem zjk {Q : Value → Shared → Prop} (hu : A.units + 1 < cLine) (I : Inv X pins σ H s) (g : DGet H a y (some v)) (ry : RelV y u) (h : ∀ w' s', Inv X pins σ H s' → RelV v w' → Q w' s') :
 wpAny (model X.prog X.w) A (getItem (.ref a) u) Q E s := by
 rcases g with ⟨kvs, k, e, ey, l⟩ | ⟨kvs, k, b, e, ey, eb, l⟩
 · subst ey
   obtain ⟨z, hd, vs, rel, dd⟩ := zh3 I.hok e
   obtain ⟨w', hw, rw'⟩ := RelO.some_of (v := v) (o := valueAt vs k) (by rw [l]; exact rel.val k)
   exact wpAny_getItem_of (zgT ry) dd.mapOf hw (h w' _ (I.tok _) rw')
 · subst ey
   cases (show u = Value.ref b from ry)
   obtain ⟨z, hd, xs, rel, dd⟩ := zh2 I.hok e
   obtain ⟨w', hw, rw'⟩ := RelO.some_of (v := v) (o := (atKey xs k).map (·.2)) (by rw [l]; exact rel.val k)
   obtain ⟨p, hp, hp2⟩ := Option.map_eq_some_iff.mp hw
   refine wpAny_getItem_heap (tupleKind_room_in1 hu) (zfO I.hok eb) dd hp ?_
   rw [hp2]
   exact h w' _ (I.tok _) rw'
theorem zk1 {Q : Value → Shared → Prop} (hu : A.units + 1 < cLine) (I : Inv X pins σ H s) (g : DGet H a y o) (ry : RelV y u) (h : ∀ s', Inv X pins σ H s' → Q (.bool (!o.isSome)) s') :
 wpAny (model X.prog X.w) A (compareOp .NotIn u (.ref a)) Q E s := by
 rcases g with ⟨kvs, k, e, ey, l⟩ | ⟨kvs, k, b, e, ey, eb, l⟩
 · subst ey
   obtain ⟨z, hd, vs, rel, dd⟩ := zh3 I.hok e
   refine wpAny_notIn_of (zgT ry) hd dd.mapOf ?_
   rw [← (rel.val k).isSome_eq, ← l]
   exact h _ (I.tok _)
 · subst ey
   cases (show u = Value.ref b from ry)
   obtain ⟨z, hd, xs, rel, dd⟩ := zh2 I.hok e
   refine wpAny_notIn_heap (tupleKind_room_in1 hu) (zfO I.hok eb) hd dd ?_
   have q := (rel.val k).isSome_eq
   rw [Option.isSome_map] at q
   rw [← q, ← l]
   exact h _ (I.tok _)
theorem zg0 {h' : Heap} {t' : Nat} {ob : HO} (I : Inv X pins σ H s) (mu : Mut (H a)) (hs : Heap.SameBut a s.heap h') (he : ∃ q, h'.get? a = some q) (new : ObjOk X.prog X.w (upd H a ob) h' a ob) :
 Inv X pins σ (upd H a ob) { s with heap := h', toks := t' } :=
 I.write (x := a) (e := a) mu (.inl rfl) (fun b q hb z => (hs.2 b hb).trans z) he new
theorem zje {P : Program} {w : World} {H' : Hp} {h' : Heap} {kvs : List (Key × V)} {vs : List (Key × Value)} (z : kvs.length ≤ sizeLine) (hd : (a == sysModules) = false) (rel : KV kvs vs) (dd : h'.DictOf (zaE P w) a vs) :
 ObjOk P w H' h' a (.dK kvs) := ⟨z, hd, vs, rel, dd⟩
theorem zjj {H' : Hp} {Q : Unit → Shared → Prop} (hu : A.units + 1 < cLine) (I : Inv X pins σ H s) (g : DPut H a y v H') (ry : RelV y u) (rv : RelV v r) (h : ∀ s', Inv X pins σ H' s' → Q () s') :
 wpAny (model X.prog X.w) A (setItem (.ref a) u r) Q E s := by
 rcases g with ⟨kvs, k, e, ey, l, eH⟩ | ⟨kvs, k, b, e, ey, eb, l, eH⟩
 · subst ey eH
   obtain ⟨z, hd, vs, rel, dd⟩ := zd5 I.hok e
   have hz : vs.length ≤ sizeLine := by rw [← rel.length]; exact z
   have hl : (putK kvs k v).length ≤ sizeLine := by have := zbz kvs k v; omega
   refine wpAny_setItem_pairs (hsz := hz) (zgT ry) dd fun h' dd' hs => h _ ?_
   have he : ∃ q, h'.get? a = some q := let ⟨q, _, _, hq, _⟩ := dd'; ⟨q, hq⟩
   exact zg0 I (by rw [e]; exact True.intro) hs he (zje hl hd (rel.put k rv) dd')
 · subst ey eH
   cases (show u = Value.ref b from ry)
   obtain ⟨z, hd, xs, rel, dd⟩ := zmd I.hok e
   have hz : xs.length ≤ sizeLine := by rw [← Paired.length rel]; exact z
   have hl : (putK kvs k v).length ≤ sizeLine := by have := zbz kvs k v; omega
   refine wpAny_setItem_heap (hsz := hz) (tupleKind_room_in1 hu) (zfO I.hok eb) dd fun h' dd' hs => h _ ?_
   obtain ⟨q, es, ep, hq, h2, h3, h4, _, h5⟩ := dd'
   refine zg0 I (by rw [e]; exact True.intro) hs ⟨q, hq⟩ ⟨hl, hd, _, (rel.put k eb rv).keeps fun c ys ec => ?_, q, es, ep, hq, h2, h3, h4, h5⟩
   rw [zan (zed ec e (fun z => nomatch z))]
   exact ec
end
section
variable {X : Cx} {pins : List (Addr × Obj)} {σ : St} {H : Hp} {s : Shared} {a : Addr} {kvs : List (Key × V)} {k : Key} {u : Value} {A : Around} {E : Value → Shared → Prop}
end
def NoSl (i : Expr) : Prop := ∀ ov iv, subscripted i false ov iv = operate [ov, iv] (getItem ov iv)
theorem zkB {prog : Program} {w : World} {A : Around} {E : Value → Shared → Prop} {s : Shared} {env : Env} {value slice : Expr} {pos : Pos} {T id : String} {Q : Value → Shared → Prop}
 (hl : typeLookup (.type T) "__getitem__" = pure (some (.builtin id))) (hs : NoSl slice)
 (h : wpAny (model prog w) A (eval value env) (fun o s₁ => wpAny (model prog w) A (eval slice env) (fun i s₂ => s₂.TypeIs o T ∧ wpAny (model prog w) A (getItem o i) Q E s₂) E s₁) E s) :
 wpAny (model prog w) A (eval (.Subscript value slice pos) env) Q E s := by
 refine Subscript_ (wpAny_mono h (fun o s₁ h₁ => wpAny_mono h₁ (fun i s₂ h₂ => ?_) fun _ _ x => x) fun _ _ x => x)
 obtain ⟨hT, h₂⟩ := h₂
 unfold subscriptTail
 refine wpAny_bind ?_
 rw [getitemInPython_of_ne hT.not_modules]
 refine wpAny_bind (wpAny_specialOf hT hl ?_)
 have fin : wpAny (model prog w) A (subscripted slice false o i) (fun r s₃ => wpAny (model prog w) A (letTemporaryGo value o r >>= fun _ => pure r) Q E s₃) E s₂ := by
  rw [hs o i]
  exact wpAny_operating (wpAny_mono h₂ (fun r s₃ h₃ => wpAny_bind (wpAny_letTemporaryGo (wpAny_pure h₃))) fun _ _ x => x)
 first
  | exact wpAny_pure (wpAny_bind fin)
  | exact wpAny_bind (wpAny_pure (wpAny_bind fin))
  | exact wpAny_bind fin
theorem zgZ {X : Cx} {pins : List (Addr × Obj)} {σ : St} {H : Hp} {s : Shared} {a : Addr} {y : V} {o : Option V} (I : Inv X pins σ H s) (g : DGet H a y o) : s.TypeIs (.ref a) "dict" := by
 rcases g with ⟨kvs, k, e, _, _⟩ | ⟨kvs, k, b, e, _, _, _⟩
 · obtain ⟨_, _, vs, _, dd⟩ := zh3 I.hok e
   exact dd.typeIs
 · obtain ⟨_, _, xs, _, dd⟩ := zh2 I.hok e
   exact dd.typeIs
def zlY (td ty : TE) : TE := fun σ H Q => td σ H fun x H1 => ty σ H1 fun y H2 => ∃ a v, x = .ref a ∧ DGet H2 a y (some v) ∧ Q v H2
def zkA (ty td : TE) : TE := fun σ H Q => ty σ H fun y H1 => td σ H1 fun x H2 => ∃ a o, x = .ref a ∧ DGet H2 a y o ∧ Q (.bl (!o.isSome)) H2
def zl1 (td ty tv : TE) : TS := fun D σ H => tv σ H fun v H1 => td σ H1 fun x H2 => ty σ H2 fun y H3 => ∃ a H4, x = .ref a ∧ DPut H3 a y v H4 ∧ D.nx σ H4
section
variable {X : Cx} {o i e value : Expr} {pos pos' tpos : Pos} {td ty tv : TE}
theorem zeP (hu : X.A.units + 1 < cLine) (ho : PE X o td) (hi : PE X i ty) (hs : NoSl i) : PE X (.Subscript o i pos) (zlY td ty) := by
 intro pins s σ H Q I h
 refine zkB PySem.F.slot_dict_getitem.lookup hs (thn (ho pins s σ H _ I h) fun u s1 ⟨x, H1, I1, rx, q1⟩ => thn (hi pins s1 σ H1 _ I1 q1) fun iv s2 ⟨y, H2, I2, ry, a, v, ex, g, q2⟩ => ?_)
 subst ex
 obtain rfl : u = Value.ref a := rx
 exact ⟨zgZ I2 g, zjk hu I2 g ry fun w' s3 I3 rw' => ⟨v, H2, I3, rw', q2⟩⟩
theorem ziC (hu : X.A.units + 1 < cLine) (hi : PE X i ty) (ho : PE X o td) : PC X .NotIn i o (zkA ty td) := by
 intro pins s σ H Q I h
 refine thn (hi pins s σ H _ I h) fun iv s1 ⟨y, H1, I1, ry, q1⟩ => thn (ho pins s1 σ H1 _ I1 q1) fun u s2 ⟨x, H2, I2, rx, a, ov, ex, g, q2⟩ => ?_
 subst ex
 obtain rfl : u = Value.ref a := rx
 exact zk1 hu I2 g ry fun s3 I3 => ⟨.bl (!ov.isSome), H2, I3, rfl, q2⟩
theorem zkQ (hu : X.A.units + 1 < cLine) (ho : PE X o td) (hi : PE X i ty) (hv : PE X value tv) (hs : swapsWith value (some (.Subscript o i pos')) pos.line X.env = pure false) :
 PS X (.Assign [.Subscript o i pos'] value pos) (zl1 td ty tv) := by
 intro pins s σ H D I h
 refine wpAny_Assign_Subscript (thn (hv pins s σ H _ I h) fun r s1 ⟨v, H1, I1, rv, q1⟩ => thn (ho pins s1 σ H1 _ I1 q1) fun u s2 ⟨x, H2, I2, rx, q2⟩ => thn (hi pins s2 σ H2 _ I2 q2) fun iv s3 ⟨y, H3, I3, ry, a, H4, ex, g, q3⟩ => ?_) hs
 subst ex
 obtain rfl : u = Value.ref a := rx
 exact zjj hu I3 g ry rv fun s4 I4 => ⟨σ, H4, I4, q3⟩
end
theorem zho {P : Program} {w : World} {H : Hp} (h : Heap) (hb : sysModules < h.objs.size) : ObjOk P w H (h.push { cls := .type "dict", data := .dict #[] }) h.objs.size (.dK []) :=
 ⟨Nat.zero_le _, beq_eq_false_iff_ne.mpr (Ne.symm (Nat.ne_of_lt hb)), [], .nil, Heap.DictOf.new h⟩
section
variable {X : Cx} {pos : Pos}
end
structure M1 (X : Cx) (o : Expr) (m : Str) (apos : Pos) (e : Expr) (cpos : Pos) : Prop where
 base : attributeBase o m X.env (eval o X.env) = eval o X.env
 few : ((backTo cpos (starEach [e] X.env)).all (fun x => !x.1) && (backToKw cpos (keywordEach [] X.env)).all (fun x => x.1.isSome)
  && decide (([e] : List Expr).length + ([] : List Keyword).length + (if ([] : List Keyword).isEmpty then 0 else 1) < 30)) = true
 line : (apos.endLine == cpos.line) = true
 trees : backTo cpos (starEach [e] X.env) = [(false, eval e X.env)]
structure M2 (X : Cx) (o : Expr) (m : Str) (apos : Pos) (e f : Expr) (cpos : Pos) : Prop where
 base : attributeBase o m X.env (eval o X.env) = eval o X.env
 few : ((backTo cpos (starEach [e, f] X.env)).all (fun x => !x.1) && (backToKw cpos (keywordEach [] X.env)).all (fun x => x.1.isSome)
  && decide (([e, f] : List Expr).length + ([] : List Keyword).length + (if ([] : List Keyword).isEmpty then 0 else 1) < 30)) = true
 line : (apos.endLine == cpos.line) = true
 trees : backTo cpos (starEach [e, f] X.env) = [(false, eval e X.env), (false, eval f X.env)]
def IsD (H : Hp) (a : Addr) : Prop := (∃ kvs, Rd H a (.dK kvs)) ∨ ∃ kvs, Rd H a (.dT kvs)
theorem zlG {X : Cx} {pins : List (Addr × Obj)} {σ : St} {H : Hp} {s : Shared} {a : Addr} (I : Inv X pins σ H s) (d : IsD H a) :
 s.TypeIs (.ref a) "dict" ∧ (∀ b, Value.ref a = .ref b → ∃ ob, s.heap.get? b = some ob ∧ ob.dict = none) ∧ (a == sysModules) = false := by
 rcases d with ⟨kvs, e⟩ | ⟨kvs, e⟩
 · obtain ⟨_, hd, vs, _, dd⟩ := zh3 I.hok e
   refine ⟨dd.typeIs, fun b q => ?_, hd⟩
   cases q
   obtain ⟨ob, _, _, h1, h2, _⟩ := dd
   exact ⟨ob, h1, h2.2.1⟩
 · obtain ⟨_, hd, xs, _, dd⟩ := zh2 I.hok e
   refine ⟨dd.typeIs, fun b q => ?_, hd⟩
   cases q
   obtain ⟨ob, _, _, h1, h2, _⟩ := dd
   exact ⟨ob, h1, h2.2.1⟩
section
variable {X : Cx} {pins : List (Addr × Obj)} {σ : St} {H : Hp} {s : Shared} {a : Addr} {y d : V} {u r : Value} {o : Option V} {A : Around} {E : Value → Shared → Prop}
theorem zlN {Q : Value → Shared → Prop} (hu : A.units + 1 < cLine) (I : Inv X pins σ H s) (g : DGet H a y o) (ry : RelV y u) (rd : RelV d r) (h : ∀ w' s', Inv X pins σ H s' → RelV (o.getD d) w' → Q w' s') :
 wpAny (model X.prog X.w) A (call (.builtin "dict.get") [.ref a, u, r]) Q E s := by
 rcases g with ⟨kvs, k, e, ey, l⟩ | ⟨kvs, k, b, e, ey, eb, l⟩
 · subst ey
   obtain ⟨z, hd, vs, rel, dd⟩ := zh3 I.hok e
   refine call_meetsIn PySem.F.slot_dict_get dd.typeIs PySem.F.entry_dict_get (PySem.F.args_dict_get_3 _ _ _) (meets_dict_get_default (zaE X.prog X.w) a (zgT ry) hd r) ⟨_, dd.mapOf, h _ _ (I.tok _) ?_⟩
   rw [l]
   exact (rel.val k).getD rd
 · subst ey
   cases (show u = Value.ref b from ry)
   obtain ⟨z, hd, xs, rel, dd⟩ := zh2 I.hok e
   refine call_meetsIn PySem.F.slot_dict_get dd.typeIs PySem.F.entry_dict_get (PySem.F.args_dict_get_3 _ _ _) (meetsH_dict_get_default (tupleKind (zaE X.prog X.w)) a b hd r) ⟨tupleKind_room_in1 hu, k, xs, zfO I.hok eb, dd, h _ _ (I.tok _) ?_⟩
   rw [l]
   exact (rel.val k).getD rd
end
def zlf (td ty tx : TE) : TE := fun σ H Q => td σ H fun x H1 => ∃ a, x = .ref a ∧ IsD H1 a ∧ ty σ H1 fun y H2 => tx σ H2 fun z H3 => ∃ o, DGet H3 a y o ∧ Q (o.getD z) H3
section
variable {X : Cx} {o e f : Expr} {apos cpos : Pos} {td ty tx : TE}
theorem zjN (hu : X.A.units + 1 < cLine) (ho : PE X o td) (he : PE X e ty) (hf : PE X f tx) (m : M2 X o "get" apos e f cpos) : PE X (.Call (.Attribute o "get" apos) [e, f] [] cpos) (zlf td ty tx) := by
 intro pins s σ H Q I h
 refine wpAny_Call_method m.base m.few m.line PySem.F.plainAttrs_dict PySem.F.slot_dict_get PySem.F.type_dict_get (thn (ho pins s σ H _ I h) fun u s1 ⟨x, H1, I1, rx, a, ex, d, q1⟩ => ?_)
 subst ex
 obtain rfl : u = Value.ref a := rx
 obtain ⟨t1, t2, _⟩ := zlG I1 d
 refine ⟨t1, t2, ?_⟩
 rw [m.trees]
 refine Calls.callWith_builtin rfl (Calls.evalArgs_plain (Calls.spliced_cons (thn (he pins s1 σ H1 _ I1 q1) fun iv s2 ⟨y, H2, I2, ry, q2⟩ =>
  Calls.spliced_cons (thn (hf pins s2 σ H2 _ I2 q2) fun fv s3 ⟨z, H3, I3, rz, ov, g, q3⟩ => Calls.spliced_nil ?_))))
 exact zlN hu I3 g ry rz fun w' s4 I4 rw' => ⟨_, H3, I4, rw', q3⟩
end
section
variable {X : Cx} {pins : List (Addr × Obj)} {σ : St} {H : Hp} {s : Shared} {a : Addr} {kvs : List (Key × V)} {A : Around} {E : Value → Shared → Prop}
end
section
variable {X : Cx} {pins : List (Addr × Obj)} {σ : St} {H : Hp} {s : Shared} {a : Addr} {y : V} {u : Value} {A : Around} {E : Value → Shared → Prop}
end
end L2
namespace Att
open PySem PySem.W PySem.Calls PyProof.Rows
theorem zd4 {P : Params} {h : Heap} : ∀ (ns : List Int) (vs : List Value), WellAll P h vs (ns.map WData.int) → IntsAre vs ns := by
 intro ns
 induction ns with
 | nil =>
  intro vs w
  rw [List.map_nil] at w
  cases w
  exact .nil
 | cons n ns ih =>
  intro vs w
  rw [List.map_cons] at w
  cases w with
  | cons a b =>
   cases a
   exact .cons _ _ (ih _ b)
theorem zin {l : OpenLaw} {n : Nat} (hn : l.most = some n) {P : Params} {h : Heap} {args : List WData} {vals : List Value}
 (hpre : l.row.toRowW.claim.pre args = true) (hwl : WellAll P h vals args) :
 ∃ a vs ns, vals = [Value.ref a] ∧ args = [WData.list (ns.map WData.int)] ∧ h.get? a = some { cls := .type "list", data := .seq vs.toArray } ∧ IntsAre vs ns ∧ ns.length ≤ n := by
 have hsh : WShape.hasAll [] args [.list .int] = true := (pre_splitW hpre).1
 have hc : l.pre.holds [] { args := args } = true := (pre_splitW hpre).2
 obtain ⟨d, r, rfl, h1, h2⟩ := hasAllW_cons hsh
 obtain rfl := hasAllW_nil h2
 obtain ⟨xs, rfl, h3⟩ := hasW_list h1
 obtain ⟨ns, rfl⟩ := items_int h3
 have hlen : ns.length ≤ n := by
  unfold OpenLaw.pre at hc
  have h4 : (WTm.not (.lt (.lit (.int (n : Int))) (.len (.arg 0)))).holds [] { args := [.list (ns.map .int)] } = true := by
   have h4 := (holds_andW hc).1
   rw [hn] at h4
   exact h4
  have h5 := condW_of h4 (w_not (w_lt w_lit (w_len_list (w_arg rfl))))
  rw [List.length_map] at h5
  refine Nat.le_of_not_lt fun q => ?_
  have q' : (n : Int) < ((ns.length : Nat) : Int) := by omega
  first
   | (rw [decide_eq_true q'] at h5; exact absurd h5 (by decide))
   | (simp at h5; omega)
 cases hwl with
 | cons w1 w2 =>
  cases w2
  cases w1 with
  | list ho hall => exact ⟨_, _, ns, rfl, rfl, ho, zd4 ns _ hall, hlen⟩
theorem zix (l : OpenLaw) (args : List WData) : l.row.toRowW.claim.post args (.bool true) args = true :=
 postW_of (r := l.row.toRowW) (X := (true == true))
  (show WShape.has [] (.bool true) .bool = true by first | rfl | decide | simp [WShape.has, WShape.arms, WShape.armsAll])
  (show (WTm.eq .res (.lit (.bool true))).value [] { args := args, res := some (.bool true), after := args } = some (.bool (true == true)) from w_eq_bool (w_res rfl) w_lit) rfl
theorem attach_call {l : OpenLaw} {n : Nat} {q : Program} {loose : List Str} {XP : (Str → Option Value) → Heap → Prop} {YP : World → Heap → Prop} {d : DefRec}
 (hn : l.most = some n) (hdf : d.params.defaults = [])
 (call : ∀ (w : World) (s₀ s₁ : Shared) (mg mb : Str → Option Value) (fa : Addr) (o : Obj) (pm cd doc : Value) (a : Addr) (vs : List Value) (ns : List Int),
  Ground q loose [] XP w s₀ mg mb s₁.heap → YP w s₁.heap →
  s₁.heap.get? fa = some o → o.data = .func (docDef d.name d.params d.body d.scope pm cd doc) → s₁.heap.CodeRec cd d.name → mg d.name = some (.ref fa) →
  s₁.heap.get? a = some { cls := .type "list", data := .seq vs.toArray } → IntsAre vs ns → ns.length ≤ n → s₁.gens = #[] →
  codeAny (model l.prog w) callerA (.call (.ref fa) ⟨[.ref a], []⟩) (fun r s' => r = .ok (.ret (.bool true)) ∧ OldK s₁.heap s'.heap ∧ s'.os = s₁.os ∧ AllBare s'.gens) s₁) :
 WalkO q loose XP YP l.row.toRowW d [] (fun f vs => PySem.call f vs) := by
 intro w s₀ s₁ mg mb G Y fa o pm cd doc dV kV ho hd hcd hD hmg hg args vals as hpre hlay hrd hwl hlo
 obtain rfl : dV = .none := Dflts.none hD hdf
 obtain rfl : kV = .none := Dflts.noKw hD
 obtain ⟨a, vs, ns, rfl, rfl, hobj, hints, hlen⟩ := zin hn hpre hwl
 refine enter_call (codeAny_mono (call w s₀ s₁ mg mb fa o pm cd doc a vs ns G Y ho (fd_plain hd) hcd hmg hobj hints hlen hg) fun r s' hq => ?_)
 obtain ⟨rfl, h2, h3, h4⟩ := hq
 exact ⟨.inl ⟨.bool true, .bool true, [], rfl, fun _ => rfl, .bool true, zix l _, fun _ => ⟨List.Pairwise.nil, fun _ hm => (nomatch hm)⟩⟩, h2, h3, h4⟩
section
variable {prog : Program} {w : World} {A : Around} {E : Value → Shared → Prop} {s : Shared} {K : Frag}
end
end Att
namespace L2
open PySem PySem.Spec PyProof.Rows
theorem zfb : ∀ {vs : List Value} {ns : List Int}, IntsAre vs ns → Vals (ns.map V.int) vs
 | _, _, .nil => .nil
 | _, _, .cons n t h => .cons ⟨t, rfl⟩ (zfb h)
def Only (H : Hp) : Prop := ∀ b, H b = none ∨ ∃ o xs, H b = some (.frz o (.lst xs))
theorem zjW {P : Program} {w : World} {K : PySem.W.Frag} {mg mb : Str → Option Value} {CX : CXT} {k : Nat} {fa a : Addr} {fd : FuncData} {x : Str} {sp : Sp} {s₁ : Shared} {vs : List Value} {ns : List Int}
 (KX : K.In s₁.heap) (hns : s₁.heap.Ns mainGlobals mg) (hb : s₁.heap.Ns builtinsNs mb) (hbb : ∀ x : Str, x ≠ "__name__" → mb x = bootBuiltins x) (hlim : s₁.heap.NoLimit) (hg : s₁.gens = #[])
 (ha : s₁.heap.get? a = some { cls := .type "list", data := .seq vs.toArray }) (hi : IntsAre vs ns) (hl : ns.length ≤ sizeLine) (hr : Room k callerA)
 (F : ∀ base : Heap, K.In base → base.Ns mainGlobals mg → FnOk P w K mg base CX k fa fd [x] sp) (hbind : ∀ (s : Shared) (u : Value), BindsTo s fd ⟨[u], []⟩ [(x, u)])
 (hsp : ∀ H : Hp, Only H → SqL K H a (ns.map V.int) → sp [.ref a] H (fun v _ => v = .bl true) fun _ _ _ => False)
 (hCX : ∀ H e s', CX [] H s₁ (fun _ _ _ => False) e s' → False) :
 codeAny (model P w) callerA (.call (.ref fa) ⟨[.ref a], []⟩) (fun r s' => r = .ok (.ret (.bool true)) ∧ OldK s₁.heap s'.heap ∧ s'.os = s₁.os ∧ AllBare s'.gens) s₁ := by
 have rv := zfb hi
 have lenV := hi.length
 have core : ∀ H : Hp, Only H → SqL K H a (ns.map V.int) → HOk P w H s₁.heap → (∀ b, H b ≠ none → b = a) → (H a ≠ none → K.lookup a = none) →
  codeAny (model P w) callerA (.call (.ref fa) ⟨[.ref a], []⟩) (fun r s' => r = .ok (.ret (.bool true)) ∧ OldK s₁.heap s'.heap ∧ s'.os = s₁.os ∧ AllBare s'.gens) s₁ := by
  intro H hO hS hok hA hK
  have base_of : ∀ {b : Addr} {o : Obj}, s₁.heap.get? b = some o → H b = none → (hidT s₁.heap H).get? b = some o := fun e n => zj0 e n
  have noA : ∀ {b : Addr} {o : Obj} {es : Array DictEntry} {ep : Nat}, s₁.heap.get? b = some o → o.data = .dict es ep → H b = none := fun {b o es ep} e d => by
   cases q : H b with
   | none => rfl
   | some u =>
    have e' : b = a := hA b (by rw [q]; simp)
    subst e'
    rw [ha] at e; cases e
    have d' : Data.seq vs.toArray _ = Data.dict es ep := d
    cases d'
  have nsK : ∀ {b : Addr} {m : Str → Option Value}, s₁.heap.Ns b m → (hidT s₁.heap H).Ns b m := fun {b m} ⟨o, es, ep, e, d, r⟩ => ⟨o, es, ep, base_of e (noA e d), d, r⟩
  have hKb : K.In (hidT s₁.heap H) := fun b o e => base_of (KX b o e) (by
   cases q : H b with
   | none => rfl
   | some u =>
    have e' : b = a := hA b (by rw [q]; simp)
    subst e'
    rw [hK (by rw [q]; simp)] at e; cases e)
  have hM : Mod K mg (hidT s₁.heap H) := ⟨hKb, nsK hns, ⟨mb, nsK hb, hbb⟩, let ⟨mc, h1, h2⟩ := hlim; ⟨mc, nsK h1, h2⟩⟩
  have e0 : Env0 P w K mg (hidT s₁.heap H) callerA [] s₁ H := ⟨rfl, hM, fun b o e => zkV e, Nat.le_of_eq (zi7 _ _), trivial, fun b hb => absurd (show b ∈ ([] : List Addr) from hb) (by simp), hok, .of_eq hg⟩
  refine codeAny_mono ((F _ hKb (nsK hns)).run callerA [] s₁ H ⟨[.ref a], []⟩ [.ref a] [.ref a] _ _ hr e0 (hbind s₁ (.ref a)) (.cons rfl .nil) (hsp H hO hS)) fun r s' h => ?_
  cases r with
  | error e => exact (hCX H e s' h).elim
  | ok fl =>
   cases fl with
   | next => exact False.elim h
   | brk => exact False.elim h
   | cont => exact False.elim h
   | ret u =>
    obtain ⟨v, H', os, bare, un, hok', r', q⟩ := h
    have q' : v = .bl true := q
    subst q'
    obtain rfl : u = Value.bool true := r'
    refine ⟨rfl, OldK.of_keep fun b o e => ?_, os, bare⟩
    cases q : H b with
    | none => exact un.keep b o e q (by intro z; exact absurd (show b ∈ ([] : List Addr) from z) (by simp)) (by simp)
    | some u =>
     rcases hO b with z | ⟨ob, xs, z⟩
     · rw [q] at z; cases z
     · have z2 := un.frzs b ob _ z
       obtain ⟨e1, _⟩ := hok b _ z
       obtain ⟨e2, _⟩ := hok' b _ z2
       rw [e] at e1; cases e1
       exact e2
 cases hk : K.lookup a with
 | some o =>
  have e := KX a o hk
  rw [ha] at e
  cases e
  refine core (fun _ => none) (fun _ => .inl rfl) (.inr ⟨_, vs.toArray, _, hk, rfl, rfl, rfl, by rw [List.size_toArray, lenV]; exact hl, by simpa using rv⟩) (fun b u z => by have z' : (none : Option HO) = some u := z; cases z') (fun b z => absurd rfl z) fun z => absurd rfl z
 | none =>
  refine core (fun b => if b = a then some (.frz { cls := .type "list", data := .seq vs.toArray } (.lst (ns.map V.int))) else none) (fun b => ?_) (.inl (.inr ⟨{ cls := .type "list", data := .seq vs.toArray }, if_pos rfl⟩)) (fun b u z => ?_) (fun b z => ?_) fun _ => hk
  · by_cases hb : b = a
    · exact .inr ⟨_, _, if_pos hb⟩
    · exact .inl (if_neg hb)
  · by_cases hb : b = a
    · have z' := (if_pos hb).symm.trans z
      cases z'
      subst hb
      exact ⟨ha, by rw [List.length_map]; exact hl, vs, _, rv, ha⟩
    · have z' := (if_neg hb).symm.trans z
      cases z'
  · by_cases hb : b = a
    · exact hb
    · exact absurd (if_neg hb) z
abbrev KOf {K : PySem.W.Frag} {h : Heap} (_ : K.In h) : PySem.W.Frag := K
theorem walk_of {l : PySem.W.OpenLaw} {n k : Nat} {q : Program} {loose : List Str} {XP : (Str → Option Value) → Heap → Prop} {YP : World → Heap → Prop} {d : DefRec} {K : Params → PySem.W.Frag} {CX : World → CXT} {sp : World → Sp} {x : Str}
 (hn : l.most = some n) (hn2 : n ≤ sizeLine) (hdf : d.params.defaults = []) (hr : Room k callerA)
 (hY : ∀ (w : World) (h : Heap), YP w h → (K w.params).In h)
 (F : ∀ (w : World) (mg : Str → Option Value) (fa : Addr) (h : Heap), (K w.params).In h → h.Ns mainGlobals mg → mg d.name = some (.ref fa) →
  ∃ fd : FuncData, (∀ (s : Shared) (u : Value), BindsTo s fd ⟨[u], []⟩ [(x, u)]) ∧
   ∀ base : Heap, (K w.params).In base → base.Ns mainGlobals mg → FnOk l.prog w (K w.params) mg base (CX w) k fa fd [x] (sp w))
 (hsp : ∀ (w : World) (H : Hp) (a : Addr) (ns : List Int), ns.length ≤ n → Only H → SqL (K w.params) H a (ns.map V.int) → sp w [.ref a] H (fun v _ => v = .bl true) fun _ _ _ => False)
 (hCX : ∀ (w : World) (H : Hp) (s : Shared) (e : Value) (s' : Shared), CX w [] H s (fun _ _ _ => False) e s' → False) :
 PySem.W.WalkO q loose XP YP l.row.toRowW d [] (fun f vs => PySem.call f vs) := by
 refine Att.attach_call hn hdf fun w s₀ s₁ mg mb fa o pm cd doc a vs ns G Y ho hd hcd hmg hobj hints hlen hg => ?_
 have KX := hY w _ Y
 obtain ⟨fd, hb, hF⟩ := F w mg fa _ KX G.T.g hmg
 exact zjW KX G.T.g G.T.b G.T.builtins G.T.nolimit hg hobj hints (Nat.le_trans hlen hn2) hr hF hb (fun H hO hS => hsp w H a ns hlen hO hS) fun H e s' => hCX w H s₁ e s'
def zbB (s : Stmt) : Arguments := match s with
 | .FunctionDef _ a _ _ _ _ _ _ _ _ => a
 | _ => { posonlyargs := [], args := [], vararg := none, kwonlyargs := [], kw_defaults := [], kwarg := none, defaults := [] }
def zbp (s : Stmt) : List Stmt := match s with
 | .FunctionDef _ _ b _ _ _ _ _ _ _ => b
 | _ => []
def zag (s : Stmt) : Scope := match s with
 | .FunctionDef _ _ _ _ _ _ sc _ _ _ => sc
 | _ => { kind := .function, names := [], isGenerator := false, isCoroutine := false }
abbrev CX0 : CXT := fun _ _ _ _ _ _ => False
abbrev E0 : XK := fun _ _ _ => False
theorem zl7 {X : Cx} : zjw CX0 X E0 := fun _ _ _ _ _ _ _ h => h.elim
structure Fun (K : PySem.W.Frag) (x qual : Str) (st : Stmt) (f : Addr) (fd : FuncData) : Prop where
 ex : ∃ (oc : Value) (od : Option Addr) (kV doc pm : Value) (an : Option Addr) (cdv ct : Value) (osl : Array (Option Value)),
  fd = PySem.W.fnOf x qual (zbB st) (zbp st) (zag st) .none kV doc pm an cdv ct ∧ K.lookup f = some ⟨oc, od, .func fd, osl⟩ ∧ PySem.W.codeIn K cdv qual = true
 kp : PySem.W.keepIn K (.ref f) = true
section
variable {P : Program} {w : World} {K : PySem.W.Frag} {mg : Str → Option Value} {base : Heap}
theorem Fun.ok {x qual : Str} {st : Stmt} {f : Addr} {fd : FuncData} {N ps : List Str} {k : Nat} {sp : Sp} (F : Fun K x qual st f fd) (S : FnScope N ps (zag st)) (len : ∀ vs H Q E, sp vs H Q E → vs.length = ps.length)
 (hbody : ∀ (cdv : Value) (A : Around) (outer : List Env) (s : Shared) (H : Hp) (vs : List V) (Q : VK) (E : XK), Room k (A.deeper (envOfC qual (zag st) s.heap.objs.size f cdv)) → sp vs H Q E →
  ∃ t, PSs (cxOf CX0 P w K mg base N qual (zag st) f cdv A outer s H E).nox (zbp st) t ∧ t { nx := fun _ H' => Q .non H', rt := Q } (zfh N vs) H) : FnOk P w K mg base CX0 (k + 1) f fd ps sp := by
 obtain ⟨oc, od, kV, doc, pm, an, cdv, ct, osl, rfl, lk, hcd⟩ := F.ex
 refine zmc lk hcd S len fun A outer s H vs Q E hr hsp => ?_
 obtain ⟨t, h, q⟩ := hbody cdv A outer s H vs Q E hr hsp
 exact ⟨t, h.nox, q⟩
theorem Fun.binds {x qual : Str} {st : Stmt} {f : Addr} {fd : FuncData} {ps : List Str} (F : Fun K x qual st f fd)
 (h : ∀ (kV doc pm : Value) (an : Option Addr) (cdv ct : Value) (us : List Value), us.length = ps.length → bindArgs (PySem.W.fnOf x qual (zbB st) (zbp st) (zag st) .none kV doc pm an cdv ct) ⟨us, []⟩ = pure (ps.zip us)) : Binds K fd ps [] := by
 obtain ⟨oc, od, kV, doc, pm, an, cdv, ct, osl, rfl, lk, hcd⟩ := F.ex
 exact .all (h kV doc pm an cdv ct)
theorem zaC {x qual : Str} {st : Stmt} {f : Addr} {oc : Value} {od an : Option Addr} {osl : Array (Option Value)} {kV doc pm cdv ct : Value} (l : K.lookup f = some ⟨oc, od, .func (PySem.W.fnOf x qual (zbB st) (zbp st) (zag st) .none kV doc pm an cdv ct), osl⟩)
 (c : PySem.W.codeIn K cdv qual = true) (k : PySem.W.keepIn K (.ref f) = true) : Fun K x qual st f (PySem.W.fnOf x qual (zbB st) (zbp st) (zag st) .none kV doc pm an cdv ct) := ⟨⟨oc, od, kV, doc, pm, an, cdv, ct, osl, rfl, l, c⟩, k⟩
end
theorem zgW {A : Around} {k : Nat} (hr : Room k A) : A.units + 1 < cLine := Nat.lt_of_le_of_lt (Nat.add_le_add_left (by decide : 1 ≤ 64) _) hr.units
theorem zax {n : Nat} (h : n ≤ 1000) : n < sizeLine := Nat.lt_of_le_of_lt h (by decide)
section
variable {X : Cx}
theorem pv (i : Nat) {x : Str} {pos : Pos} (hN : X.N[i]? = some x := by rfl) (hv : Vis X.env.scope x := by first | exact Or.inl rfl | exact Or.inr (Or.inl rfl) | exact Or.inr (Or.inr rfl)) (hd : (x == ("__debug__" : Str)) = false := by decide)
 (hcd : (x == ("__classdict__" : Str)) = false := by decide) : PE X (.Name x pos) (tVar i) := zlr hN hv hd hcd
end
theorem iteF {A B : Prop} (h : B) : if false = true then A else B := by
 rw [if_neg Bool.false_ne_true]
 exact h
theorem iteT {A B : Prop} (h : A) : if true = true then A else B := by
 rw [if_pos rfl]
 exact h
theorem ite2 {c A B : Prop} [Decidable c] (h1 : c → A) (h2 : ¬ c → B) : if c then A else B := by
 by_cases h : c
 · rw [if_pos h]
   exact h1 h
 · rw [if_neg h]
   exact h2 h
theorem zlF {c A B : Prop} [Decidable c] (hc : c) (h : B) : if (!decide c) = true then A else B := by
 rw [decide_eq_true hc]
 exact iteF h
def Same (H H' : Hp) : Prop := ∀ b o, H b = some o → H' b = some o
theorem Same.refl (H : Hp) : Same H H := fun _ _ h => h
theorem Same.trans {H H1 H2 : Hp} (a : Same H H1) (b : Same H1 H2) : Same H H2 := fun c o h => b c o (a c o h)
theorem Same.free {H H' : Hp} (e : Same H H') {l : Addr} (h : H' l = Option.none) : H l = Option.none := by
 cases q : H l with
 | none => rfl
 | some o =>
  rw [e l o q] at h
  cases h
theorem Same.seq {K : PySem.W.Frag} {H H' : Hp} {a : Addr} {xs : List V} (e : Same H H') (h : SqL K H a xs) : SqL K H' a xs := by
 rcases h with (h | ⟨o, h⟩) | h
 · exact .inl (.inl (e _ _ h))
 · exact .inl (.inr ⟨o, e _ _ h⟩)
 · exact .inr h
section
variable {X : Cx}
end
section
variable {κ : Type} [DecidableEq κ]
theorem ziI : ∀ {l : List κ} {k : κ}, l.Nodup → ¬ k ∈ l → (l ++ [k]).Nodup
 | [], k, _, _ => by simp
 | a :: r, k, h, hk => by
  obtain ⟨h1, h2⟩ := List.nodup_cons.mp h
  show (a :: (r ++ [k])).Nodup
  refine List.nodup_cons.mpr ⟨fun m => ?_, ziI h2 fun m => hk (List.mem_cons.mpr (Or.inr m))⟩
  rcases List.mem_append.mp m with q | q
  · exact h1 q
  · exact hk (List.mem_cons.mpr (Or.inl (List.mem_singleton.mp q).symm))
end
def lcx (X : Cx) (N' : List Str) (scope : Scope) (cl : List (Str × Addr)) (C : Addr) (s₀ : Shared) (H₀ : Hp) (ex : List Addr) : Cx :=
 { prog := X.prog, w := X.w, K := X.K, mg := X.mg, base := X.base, A := X.A, N := N', s₀ := s₀, H₀ := H₀, env := compEnvC scope cl C X.env, outer := X.stack, stack := X.stack, ex := ex, fn := fun _ => false, calm := X.calm, pn := [], xe := fun _ _ => False }
abbrev Cap := List (Option Nat)
def inn (js : Cap) (σ : St) : St := js.map fun o => o.bind fun j => (σ[j]?).join
theorem zk2 {env : Env} (has : ∀ x, (env.kindOf x = some .cell ∨ env.kindOf x = some .free) → ∃ c, env.cells.lookup x = some c) :
 ∀ (names : List (Str × NameKind)) (acc : List (Str × Addr)), (∀ p ∈ names, p.2 = .free → env.kindOf p.1 = some .cell ∨ env.kindOf p.1 = some .free) → (∀ x c, acc.lookup x = some c → env.cells.lookup x = some c) →
  ∃ cl, (forIn names acc (fun (p : Str × NameKind) (cs : List (Str × Addr)) => (do
   if p.2 == NameKind.free then
    let c ← cellOf env p.1
    pure (ForInStep.yield ((p.1, c) :: cs))
   else pure (ForInStep.yield cs) : Sem (ForInStep (List (Str × Addr)))))) = pure cl ∧ (∀ x c, cl.lookup x = some c → env.cells.lookup x = some c) ∧
   (∀ x, (acc.lookup x).isSome = true → (cl.lookup x).isSome = true) ∧ ∀ p ∈ names, p.2 = .free → (cl.lookup p.1).isSome = true := by
 intro names
 induction names with
 | nil => intro acc _ ha; exact ⟨acc, rfl, ha, fun _ h => h, fun _ h => nomatch h⟩
 | cons p r ih =>
  intro acc hn ha
  obtain ⟨n, k⟩ := p
  rw [List.forIn_cons]
  by_cases hk : k = .free
  · subst hk
    obtain ⟨c, hc⟩ := has n (hn (n, .free) List.mem_cons_self rfl)
    have e : cellOf env n = (pure c : Sem Addr) := by
     unfold cellOf
     rw [hc]
    obtain ⟨cl, h1, h2, h3, h4⟩ := ih ((n, c) :: acc) (fun q hq => hn q (List.mem_cons_of_mem _ hq)) (fun x c' hx => by
     rw [List.lookup_cons] at hx
     cases hb : x == n with
     | true =>
      rw [hb] at hx
      cases hx
      rw [show x = n from eq_of_beq hb]
      exact hc
     | false =>
      rw [hb] at hx
      exact ha x c' hx)
    refine ⟨cl, ?_, h2, fun x hx => h3 x ?_, fun q hq hf => ?_⟩
    · simp only [beq_self_eq_true, if_true, e]
      exact h1
    · rw [List.lookup_cons]
      cases hb : x == n with
      | true => rfl
      | false => exact hx
    · rcases List.mem_cons.mp hq with rfl | hq
      · exact h3 _ (by simp [List.lookup_cons])
      · exact h4 q hq hf
  · have hb : (k == NameKind.free) = false := by simpa using hk
    obtain ⟨cl, h1, h2, h3, h4⟩ := ih acc (fun q hq => hn q (List.mem_cons_of_mem _ hq)) ha
    refine ⟨cl, ?_, h2, h3, fun q hq hf => ?_⟩
    · simp only [hb, Bool.false_eq_true, if_false]
      exact h1
    · rcases List.mem_cons.mp hq with rfl | hq
      · exact absurd hf hk
      · exact h4 q hq hf
theorem zd9 {env : Env} {scope : Scope} (has : ∀ x, (env.kindOf x = some .cell ∨ env.kindOf x = some .free) → ∃ c, env.cells.lookup x = some c)
 (hn : ∀ p ∈ scope.names, p.2 = .free → env.kindOf p.1 = some .cell ∨ env.kindOf p.1 = some .free) :
 ∃ cl, closureFor scope env = pure cl ∧ (∀ x c, cl.lookup x = some c → env.cells.lookup x = some c) ∧ ∀ p ∈ scope.names, p.2 = .free → (cl.lookup p.1).isSome = true := by
 obtain ⟨cl, h1, h2, _, h4⟩ := zk2 has scope.names [] hn (fun _ _ h => nomatch h)
 refine ⟨cl, ?_, h2, h4⟩
 unfold closureFor
 show (do let cs ← forIn scope.names [] _; pure cs) = _
 refine Eq.trans ?_ h1
 simp only [bind_pure]
section
variable {prog : Program} {w : World} {A : Around} {E : Value → Shared → Prop} {R : Result → Shared → Prop} {s : Shared}
theorem zg1 {elt target iter : Expr} {ifs : List Expr} {scope : Scope} {pos : Pos} {it acc : Value} {env : Env} (I : Nat → Shared → Prop)
 (turn : ∀ n s, I n s → wpAny (model prog w) A (pyNext it) (fun r s₁ => match r with
  | none => R (.ok .next) s₁
  | some v => wpAny (model prog w) A (letOwnedTupleGo target it v) (fun _ s₁' => wpAny (model prog w) A (assign target env v) (fun _ s₂ =>
   wpAny (model prog w) A (forIn ifs true fun c r => if r = true then do let ok ← isTrue c env (eval c env); pure (ForInStep.yield ok) else pure (ForInStep.yield r)) (fun ok s₃ =>
    if ok = true then wpAny (model prog w) A (eval elt env) (fun x s₄ =>
     wpAny (model prog w) A (call (.builtin "list.append") [acc, x]) (fun _ s₅ => ∃ m, m < n ∧ I m s₅) (fun _ _ => False) s₄) (fun _ _ => False) s₃
    else ∃ m, m < n ∧ I m s₃) (fun _ _ => False) s₂) (fun _ _ => False) s₁') (fun _ _ => False) s₁) (fun _ _ => False) s)
 (n : Nat) (h : I n s) :
 codeAny (model prog w) A (.compLoop (.ListComp elt [⟨target, iter, ifs, 0⟩] scope pos) 0 it acc env) R s := by
 refine codeAny_loop rfl I (fun n s hI => ?_) n h
 show wpAny _ A ((compTurn (.ListComp elt [⟨target, iter, ifs, 0⟩] scope pos) 0 it acc env).onRaise (fun x => do noteFrame x env; theTreesLotGoes x)) _ _ s
 refine wpAny_noted ?_
 rw [compTurn_list]
 refine wpAny_bind (wpAny_standAt (wpAny_bind (wpAny_mono (turn n s hI) (fun r s₁ h₁ => ?_) fun _ _ h' => h'.elim)))
 cases r with
 | none => exact wpAny_pure h₁
 | some v =>
  refine wpAny_bind (wpAny_mono h₁ (fun _ s₁' h₁' => ?_) fun _ _ h' => h'.elim)
  refine wpAny_bind (wpAny_mono h₁' (fun _ s₂ h₂ => wpAny_bind (wpAny_mono h₂ (fun ok s₃ h₃ => ?_) fun _ _ h' => h'.elim)) fun _ _ h' => h'.elim)
  cases ok with
  | false => exact wpAny_pure ⟨rfl, h₃⟩
  | true =>
   exact wpAny_bind (wpAny_bind (wpAny_mono h₃ (fun x s₄ h₄ => wpAny_bind (wpAny_mono h₄ (fun _ s₅ h₅ => wpAny_pure (wpAny_pure ⟨rfl, h₅⟩)) fun _ _ h' => h'.elim)) fun _ _ h' => h'.elim))
end
def PIfs (X : Cx) (ifs : List Expr) (t : TT) : Prop :=
 ∀ (pins : List (Addr × Obj)) (s : Shared) (σ : St) (H : Hp) (Q : Bool → Hp → Prop), Inv X pins σ H s → t σ H Q →
  wpAny (model X.prog X.w) X.A (forIn ifs true fun c r => if r = true then do let ok ← isTrue c X.env (eval c X.env); pure (ForInStep.yield ok) else pure (ForInStep.yield r)) (TP X pins σ Q) X.xe s
def tYes : TT := fun _ H Q => Q true H
theorem zaM {X : Cx} : PIfs X [] tYes := fun _ _ _ H _ I h => wpAny_tests_nil ⟨H, I, h⟩
theorem zcb {X : Cx} {c : Expr} {t : TT} (h : PT X c t) : PIfs X [c] t := fun pins s σ H Q I hw => wpAny_tests_one (h pins s σ H Q I hw)
def zcq (J : It) (p : Addr) (js : Cap) (g : TG) (tc : TT) (te : TE) (σ : St) (H : Hp) (Q : VK) : Prop :=
 ∃ W : Nat → Nat → St → List V → Hp → Prop, (∃ m, W 0 m (inn js σ) [] (upd H p (.lst []))) ∧ ∀ i m σ' ys H, W i m σ' ys H → H p = some (.lst ys) ∧
  ((J.stop i H ∧ Q (.ref p) H) ∨ (J.go i H ∧ ys.length < sizeLine ∧ ∀ x H', J.yld i H x H' → g x σ' H' fun σ2 H2 => tc σ2 H2 fun b H3 =>
    if b = true then te σ2 H3 fun y H4 => H4 p = some (.lst ys) ∧ ∃ m', m' < m ∧ W (i + 1) m' σ2 (ys ++ [y]) (upd H4 p (.lst (ys ++ [y])))
    else ∃ m', m' < m ∧ W (i + 1) m' σ2 ys H3))
def tLC (wi : TI) (js : Cap) (g : TG) (tc : TT) (te : TE) : TE := fun σ H Q => wi σ H fun J H1 => ∀ p, H1 p = none → zcq J p js g tc te σ H1 Q
structure CapOk (X : Cx) (N' : List Str) (js : Cap) (scope : Scope) : Prop where
 len : js.length = N'.length
 kind : scope.kind = .function
 ncell : ∀ p ∈ scope.names, p.2 ≠ .cell
 names : ∀ p ∈ scope.names, p.2 = .local → scope.names.lookup p.1 = some .local
 free : ∀ p ∈ scope.names, p.2 = .free → X.env.kindOf p.1 = some .cell ∨ X.env.kindOf p.1 = some .free
 cap : ∀ (i j : Nat), js[i]? = some (some j) → ∃ x, N'[i]? = some x ∧ X.N[j]? = some x ∧ scope.names.lookup x = some .free
theorem zcC {names : List (Str × NameKind)} {x : Str} {k : NameKind} (h : names.lookup x = some k) : (x, k) ∈ names := by
 induction names with
 | nil => cases h
 | cons p r ih =>
  obtain ⟨n, k'⟩ := p
  rw [List.lookup_cons] at h
  cases hb : x == n with
  | true =>
   rw [hb] at h
   cases h
   rw [show x = n from eq_of_beq hb]
   exact List.mem_cons_self
  | false =>
   rw [hb] at h
   exact List.mem_cons_of_mem _ (ih h)
theorem zdt {scope : Scope} {env : Env} {x : Str} {k : NameKind} (h : (relabel scope env).names.lookup x = some k) : ∃ k0, scope.names.lookup x = some k0 ∧ (k = k0 ∨ (k0 = .free ∧ k = .cell)) := by
 have go : ∀ (names : List (Str × NameKind)), (names.map fun (p : Str × NameKind) => if (p.2 == NameKind.free && env.scope.kind == .function && env.kindOf p.1 == some .cell) then (p.1, NameKind.cell) else (p.1, p.2)).lookup x = some k →
  ∃ k0, names.lookup x = some k0 ∧ (k = k0 ∨ (k0 = .free ∧ k = .cell)) := by
  intro names
  induction names with
  | nil => intro h; cases h
  | cons p r ih =>
   obtain ⟨n, k'⟩ := p
   intro h
   rw [List.map_cons] at h
   by_cases hc : (k' == NameKind.free && env.scope.kind == .function && env.kindOf n == some .cell) = true
   · rw [if_pos hc] at h
     rw [List.lookup_cons] at h ⊢
     cases hb : x == n with
     | true =>
      rw [hb] at h
      cases h
      have : k' = .free := by
       cases k' <;> first | rfl | (simp at hc)
      exact ⟨k', rfl, .inr ⟨this, rfl⟩⟩
     | false =>
      rw [hb] at h
      exact ih h
   · rw [if_neg hc] at h
     rw [List.lookup_cons] at h ⊢
     cases hb : x == n with
     | true =>
      rw [hb] at h
      cases h
      exact ⟨k', rfl, .inl rfl⟩
     | false =>
      rw [hb] at h
      exact ih h
 exact go scope.names h
theorem zft {scope : Scope} {env : Env} {x : Str} (h : scope.names.lookup x = some .free) : (relabel scope env).names.lookup x = some .cell ∨ (relabel scope env).names.lookup x = some .free := by
 have go : ∀ (names : List (Str × NameKind)), names.lookup x = some .free → (names.map fun (p : Str × NameKind) => if (p.2 == NameKind.free && env.scope.kind == .function && env.kindOf p.1 == some .cell) then (p.1, NameKind.cell) else (p.1, p.2)).lookup x = some .cell ∨
  (names.map fun (p : Str × NameKind) => if (p.2 == NameKind.free && env.scope.kind == .function && env.kindOf p.1 == some .cell) then (p.1, NameKind.cell) else (p.1, p.2)).lookup x = some .free := by
  intro names
  induction names with
  | nil => intro h; cases h
  | cons p r ih =>
   obtain ⟨n, k'⟩ := p
   intro h
   rw [List.map_cons]
   rw [List.lookup_cons] at h
   by_cases hc : (k' == NameKind.free && env.scope.kind == .function && env.kindOf n == some .cell) = true
   · rw [if_pos hc, List.lookup_cons]
     cases hb : x == n with
     | true => exact .inl rfl
     | false =>
      rw [hb] at h
      exact ih h
   · rw [if_neg hc, List.lookup_cons]
     cases hb : x == n with
     | true =>
      rw [hb] at h
      exact .inr h
     | false =>
      rw [hb] at h
      exact ih h
 exact go scope.names h
section
variable {X : Cx} {pins : List (Addr × Obj)} {σ : St} {H : Hp} {s : Shared}
theorem zc7 {N' : List Str} {js : Cap} {scope : Scope} {cl : List (Str × Addr)} {fp : List Addr} {h₁ : Heap} {t' : Nat} (ok : CapOk X N' js scope) (I : Inv X pins σ H s)
 (h2 : ∀ x c, cl.lookup x = some c → X.env.cells.lookup x = some c) (h3 : ∀ p ∈ scope.names, p.2 = .free → (cl.lookup p.1).isSome = true)
 (hf : ∀ b ∈ fp, FpOk X pins H b) (hlt : ∀ b ∈ fp, b < s.heap.objs.size)
 (k : ∀ b u, s.heap.get? b = some u → h₁.get? b = some u) (hn : ∃ m, h₁.Ns s.heap.objs.size m) :
 Inv (lcx X N' scope cl s.heap.objs.size s H fp) [] (inn js σ) H { s with heap := h₁, toks := t' } := by
 have fresh : H s.heap.objs.size = none := I.hok.fresh (Nat.le_refl _)
 have kind_of : ∀ x, ((relabel scope X.env).names.lookup x = some .cell ∨ (relabel scope X.env).names.lookup x = some .free) → scope.names.lookup x = some .free := fun x hx => by
  rcases hx with hx | hx
  · obtain ⟨k0, e, z⟩ := zdt hx
    rcases z with z | ⟨z, _⟩
    · subst z
      exact absurd rfl (ok.ncell _ (zcC e))
    · subst z; exact e
  · obtain ⟨k0, e, z⟩ := zdt hx
    rcases z with z | ⟨z, z'⟩
    · subst z; exact e
    · cases z'
 have okc : (lcx X N' scope cl s.heap.objs.size s H fp).Ok := by
  refine ⟨I.ok.mod, ok.kind, I.ok.glob, I.ok.blt, Nat.le_refl _, fun x y c e1 e2 => I.ok.inj x y c (h2 x c e1) (h2 y c e2), fun x hx => ?_, fun x c hx => (nomatch hx), I.ok.hd, I.ok.frames, .inl rfl, fun b hb => ⟨Nat.ne_of_lt (hlt b hb), fun x c e => ?_⟩, I.bs, Nat.le_trans I.ok.bsz I.sz, fun b o e hb => ?_, fun b hb hb' => ?_, I.stack, I.stkFree⟩
  · have e := kind_of x hx
    have z := h3 _ (zcC e) rfl
    cases q : cl.lookup x with
    | none => rw [q] at z; cases z
    | some c => exact ⟨c, q⟩
  · exact (hf b hb).2.2.2.2.1 x c (h2 x c e)
  · rcases (hf b hb).2.2.2.1 with z | z
    · exact I.ok.noex b o e z
    · exact absurd (Nat.lt_of_lt_of_le (Heap.lt_size e) (Nat.le_trans I.ok.bsz z)) (Nat.lt_irrefl _)
  · rcases List.mem_cons.mp (I.stkSub b hb') with z | z
    · exact (hf b hb).2.1 z
    · exact (hf b hb).2.2.1 z
 obtain ⟨m, hn⟩ := hn
 refine ⟨okc, rfl, I.bare, Un.kept k, ⟨m, hn, fun i x v e1 e2 e3 => ?_⟩, fun x c e => ?_, fresh, fun x c e => I.freeC x c (h2 x c e), (fun p hp => nomatch hp), I.hok.kept k, by show (inn js σ).length = N'.length; unfold inn; rw [List.length_map]; exact ok.len⟩
 · have e2 : (inn js σ)[i]? = some (some v) := e2
   unfold inn at e2
   rw [List.getElem?_map] at e2
   cases q : js[i]? with
   | none => rw [q] at e2; cases e2
   | some o =>
    rw [q] at e2
    cases o with
    | none => cases e2
    | some j =>
     obtain ⟨x', n1, n2, n3⟩ := ok.cap i j q
     have e1 : N'[i]? = some x := e1
     rw [n1] at e1
     cases e1
     have e2 : (σ[j]?).join = some v := Option.some.inj e2
     have e2' : σ[j]? = some (some v) := by
      cases q2 : σ[j]? with
      | none => rw [q2] at e2; cases e2
      | some o2 => rw [q2] at e2; exact congrArg some e2
     obtain ⟨mo, hno, hlo⟩ := I.loc
     have kx := ok.free _ (zcC n3) rfl
     have vis : Vis X.env.scope x := by
      rcases kx with z | z
      · exact .inr (.inl z)
      · exact .inr (.inr z)
     obtain ⟨u, r, l⟩ := hlo j x v n2 e2' vis
     refine ⟨u, r, .inr ⟨zft n3, ?_⟩⟩
     rcases l with ⟨z, _⟩ | ⟨_, c, hc, hcell⟩
     · rcases kx with y | y <;> (rw [z] at y; cases y)
     · have z := h3 _ (zcC n3) rfl
       cases q3 : cl.lookup x with
       | none => rw [q3] at z; cases z
       | some c' =>
        have := h2 x c' q3
        rw [hc] at this
        cases this
        exact ⟨c, q3, hcell.keeps k⟩
 · obtain ⟨v, hv⟩ := I.cell x c (h2 x c e)
   exact ⟨v, hv.keeps k⟩
end
section
variable {X : Cx} {tg iter elt : Expr} {ifs : List Expr} {wi : TI} {js : Cap} {g : TG} {tc : TT} {te : TE} {N' : List Str} {scope : Scope} {pos : Pos}
theorem zhm {pins : List (Addr × Obj)} {σ : St} {H : Hp} {s : Shared} {E : Value → Shared → Prop} {Q : VK} {J : It} {it : Addr} {fp : List Addr} {tn : Nat → Heap → Prop} {cl : List (Str × Addr)}
 (hc : X.calm = true) (ok : CapOk X N' js scope)
 (h2 : ∀ x c, cl.lookup x = some c → X.env.cells.lookup x = some c) (h3 : ∀ p ∈ scope.names, p.2 = .free → (cl.lookup p.1).isSome = true)
 (hg : ∀ cl C s₀ H₀ ex, PG (lcx X N' scope cl C s₀ H₀ ex) tg g) (ht : ∀ cl C s₀ H₀ ex, PIfs (lcx X N' scope cl C s₀ H₀ ex) ifs tc) (he : ∀ cl C s₀ H₀ ex, PE (lcx X N' scope cl C s₀ H₀ ex) elt te)
 (I : Inv X pins σ H s) (T : Turn X.prog X.w X.K tg J fp it tn) (st : tn 0 s.heap) (hf : ∀ b ∈ fp, FpOk X pins H b)
 (hw : ∀ p, H p = none → zcq J p js g tc te σ H Q) :
 wpAny (model X.prog X.w) X.A (newList []) (fun acc s₃ => wpAny (model X.prog X.w) X.A (newFunctionEnv scope X.env.globals cl [] X.env.qual none .none (some X.env)) (fun cenv s₄ =>
  codeAny (model X.prog X.w) X.A (.compStart (.ListComp elt [⟨tg, iter, ifs, 0⟩] scope pos) 0 (.ref it) acc { cenv with scope := relabel scope X.env })
   (fun r s' => r = .ok .next ∧ (∃ m, s'.heap.Ns cenv.locals m) ∧ ∃ v H', RelV v acc ∧ Inv X pins σ H' s' ∧ FpOk X pins H' cenv.locals ∧ Q v H') s₄) E s₃) E s := by
 have objs := T.obj _ _ st
 refine wpAny_newObj_type ?_ (by show 0 ≤ sizeLine; decide)
 obtain ⟨W, ⟨m0, w0⟩, turn⟩ := hw s.heap.objs.size (I.hok.fresh (Nat.le_refl _))
 generalize hp : s.heap.objs.size = p at *
 have kp : ∀ b u, s.heap.get? b = some u → (s.heap.push { cls := .type "list", dict := none, data := .seq ([] : List Value).toArray }).get? b = some u := fun b u e => Heap.get?_push_of_some _ e
 have I3 : Inv X pins σ (upd H p (.lst [])) { s with heap := s.heap.push { cls := .type "list", dict := none, data := .seq ([] : List Value).toArray } } := by
  refine I.laid (t' := s.toks) kp (by rw [hp]; exact Nat.le_refl _) ⟨Nat.zero_le _, [], 0, .nil, ?_⟩
  have := Heap.get?_push_size s.heap (o := { cls := .type "list", dict := none, data := .seq ([] : List Value).toArray }) rfl
  rw [hp] at this
  exact this
 have fne : ∀ b ∈ fp, b ≠ p := fun b hb => by
  obtain ⟨o, e, _⟩ := objs b hb
  have := Heap.lt_size e
  rw [← hp]
  exact Nat.ne_of_lt this
 have hf3 : ∀ b ∈ fp, FpOk X pins (upd H p (.lst [])) b := fun b hb => ⟨by rw [zan (fne b hb)]; exact (hf b hb).1, (hf b hb).2⟩
 have st3 : tn 0 (s.heap.push { cls := .type "list", dict := none, data := .seq ([] : List Value).toArray }) := T.keep _ _ _ st fun b _ o e => kp b o e
 have lt3 : ∀ b ∈ fp, b < (s.heap.push { cls := .type "list", dict := none, data := .seq ([] : List Value).toArray }).objs.size := fun b hb => by
  obtain ⟨o, e, _⟩ := objs b hb
  exact Heap.lt_size (kp b o e)
 generalize hs3 : ({ s with heap := s.heap.push { cls := .type "list", dict := none, data := .seq ([] : List Value).toArray } } : Shared) = s3 at *
 have eh : s.heap.push { cls := .type "list", dict := none, data := .seq ([] : List Value).toArray } = s3.heap := by rw [← hs3]
 rw [eh] at st3 lt3
 refine wpAny_newFunctionEnv ok.ncell (by intro y hy; simp at hy) (fun h₁ hns₁ hsb₁ => ?_) ok.kind
 try dsimp only at hns₁ hsb₁ ⊢
 have k4 : ∀ b u, s3.heap.get? b = some u → h₁.get? b = some u := fun b u e => (hsb₁.2 b (Nat.ne_of_lt (Heap.lt_size e))).trans (Heap.get?_push_of_some _ e)
 have I4 := zc7 (cl := cl) (h₁ := h₁) (t' := s3.toks + ([] : List (Str × Value)).length) ok I3 h2 h3 hf3 lt3 k4 ⟨_, hns₁⟩
 have st4 : tn 0 h₁ := T.keep _ _ _ st3 fun b _ o e => k4 b o e
 generalize hX : lcx X N' scope cl s3.heap.objs.size s3 (upd H p (.lst [])) fp = X' at I4
 have hg' : PG X' tg g := by rw [← hX]; exact hg _ _ _ _ _
 have ht' : PIfs X' ifs tc := by rw [← hX]; exact ht _ _ _ _ _
 have he' : PE X' elt te := by rw [← hX]; exact he _ _ _ _ _
 have eP : X'.prog = X.prog := by rw [← hX]; rfl
 have ew : X'.w = X.w := by rw [← hX]; rfl
 have eK : X'.K = X.K := by rw [← hX]; rfl
 have ec : X'.calm = true := by rw [← hX]; exact hc
 have eA : X'.A = X.A := by rw [← hX]; rfl
 have ex : X'.xe = fun _ _ => False := by rw [← hX]; rfl
 have eE : X'.env = compEnvC scope cl s3.heap.objs.size X.env := by rw [← hX]; rfl
 have eEx : X'.ex = fp := by rw [← hX]; rfl
 have eN : X'.pn = [] := by rw [← hX]; rfl
 have stat : ∀ {H' : Hp}, (∀ b ∈ fp, H' b = none) → ∀ b ∈ fp, FpOk X' [] H' b := fun {H'} hn b hb => by
  have okc := I4.ok
  refine ⟨hn b hb, (okc.exf b (by rw [eEx]; exact hb)).1, okc.exfs b (by rw [eEx]; exact hb), .inl (by rw [eEx]; exact hb), (okc.exf b (by rw [eEx]; exact hb)).2, fun q hq => ?_⟩
  rw [eN] at hq
  cases hq
 have loop : ∀ s₄ : Shared, s₄ = { s3 with heap := h₁, toks := s3.toks + ([] : List (Str × Value)).length } →
  codeAny (model X.prog X.w) X.A (.compLoop (.ListComp elt [⟨tg, iter, ifs, 0⟩] scope pos) 0 (.ref it) (.ref p) (compEnvC scope cl s3.heap.objs.size X.env))
   (fun r s' => r = .ok .next ∧ (∃ m, s'.heap.Ns s3.heap.objs.size m) ∧ ∃ v H', RelV v (.ref p) ∧ Inv X pins σ H' s' ∧ FpOk X pins H' s3.heap.objs.size ∧ Q v H') s₄ := by
  rintro s₄ rfl
  refine zg1 (fun n s' => ∃ i σ' ys H', Inv X' [] σ' H' s' ∧ tn i s'.heap ∧ (∀ b ∈ fp, H' b = none) ∧ W i n σ' ys H') ?_ m0 ⟨0, _, [], _, I4, st4, fun b hb => (hf3 b hb).1, w0⟩
  rintro n s5 ⟨i, σ5, ys, H5, I5, st5, fr5, w5⟩
  obtain ⟨hp5, tu⟩ := turn i n σ5 ys H5 w5
  rcases tu with ⟨stop, qn⟩ | ⟨go, hz, step⟩
  · have D := T.done X' eP ew eK ec i [] s5 σ5 H5 (fun _ _ => False) I5 (stat fr5) st5 stop
    rw [eA] at D
    refine thn D fun r s6 ⟨hr, I6⟩ => ?_
    subst hr
    refine ⟨rfl, ?_, .ref p, H5, rfl, ?_, ?_, qn⟩
    · obtain ⟨m, hm, _⟩ := I6.loc
      rw [eE] at hm
      exact ⟨m, hm⟩
    · have b6 := I6.base
      have ho := I6.os
      have hk := I6.hok
      have hb := I6.bare
      subst hX
      exact I3.call' (ch := fp) ho b6 hk hb fun b hb' => ⟨(hf b hb').2.2.2.1, (hf b hb').2.1, (hf b hb').2.2.2.2.1, (hf b hb').2.2.2.2.2⟩
    · have fr := I6.free
      rw [eE] at fr
      exact I3.fpOk (Nat.le_refl _) fr
  · have D := T.item X' eP ew eK ec i [] s5 σ5 H5 (fun _ _ => False) I5 (stat fr5) st5 go
    rw [eA] at D
    refine thn D fun r s6 ⟨u, hr, h6⟩ => ?_
    subst hr
    refine thn h6 fun _ s7 ⟨x, H7, I7, r7, y7, st7, fr7⟩ => ?_
    have I7' := I7.pinned (stat fr7) (T.obj _ _ st7)
    have G := hg' _ s7 σ5 H7 x u _ I7' r7 (step x H7 y7)
    rw [eP, ew, eA, ex, eE] at G
    refine thn G fun _ s8 ⟨σ8, H8, I8, q8⟩ => ?_
    have Tt := ht' _ s8 σ8 H8 _ I8 q8
    rw [eP, ew, eA, ex, eE] at Tt
    refine thn Tt fun b s9 ⟨H9, I9, q9⟩ => ?_
    have again : ∀ {s' : Shared} {ys' : List V} {H' : Hp}, Inv X' ([] ++ zaX fp s7.heap) σ8 H' s' → (∃ m', m' < n ∧ W (i + 1) m' σ8 ys' H') →
     ∃ m, m < n ∧ ∃ i σ' ys H', Inv X' [] σ' H' s' ∧ tn i s'.heap ∧ (∀ b ∈ fp, H' b = none) ∧ W i m σ' ys H' := fun {s' ys' H'} I' ⟨m', hm, w'⟩ => by
     refine ⟨m', hm, i + 1, σ8, ys', H', I'.unpinned, T.keep _ _ _ st7 fun b hb o e => (I'.pin (b, o) (List.mem_append_right _ (List.mem_append_right _ (zaB hb e)))).1, fun b hb => ?_, w'⟩
     obtain ⟨o, e, d⟩ := T.obj _ _ st7 b hb
     exact (I'.pin (b, o) (List.mem_append_right _ (List.mem_append_right _ (zaB hb e)))).2.1
    cases b with
    | false => exact again I9 q9
    | true =>
     have Ee := he' _ s9 σ8 H9 _ I9 q9
     rw [eP, ew, eA, ex, eE] at Ee
     show wpAny _ _ _ _ _ _
     refine thn Ee fun xv s10 ⟨y, H10, I10, r10, hp10, q10⟩ => ?_
     have Ap := zbU (X := X') _ s10 σ8 H10 (.ref p) [y] (.ref p) [xv] (fun _ H' => H' = upd H10 p (.lst (ys ++ [y]))) I10 rfl (.cons r10 .nil) ⟨p, ys, y, rfl, rfl, hp10, hz, rfl⟩
     rw [eP, ew, eA, ex] at Ap
     refine thn Ap fun _ s11 ⟨_, H11, I11, _, e11⟩ => ?_
     subst e11
     exact again I11 q10
 exact codeAny_compStart_list (loop _ rfl) (T.self _ 0 _ _ _ st4 (loop _ rfl))
theorem zc0 (hc : X.calm = true) (ok : CapOk X N' js scope) (hi : PI X tg iter wi)
 (hg : ∀ cl C s₀ H₀ ex, PG (lcx X N' scope cl C s₀ H₀ ex) tg g) (ht : ∀ cl C s₀ H₀ ex, PIfs (lcx X N' scope cl C s₀ H₀ ex) ifs tc) (he : ∀ cl C s₀ H₀ ex, PE (lcx X N' scope cl C s₀ H₀ ex) elt te)
 (hs : ∀ x, foldedSetIterable iter X.env x = pure x := by intro _; rfl) : PE X (.ListComp elt [⟨tg, iter, ifs, 0⟩] scope pos) (tLC wi js g tc te) := by
 intro pins s σ H Q I h
 obtain ⟨cl, c1, c2, c3⟩ := zd9 (scope := scope) I.ok.has ok.free
 rw [eval_ListComp]
 refine wpAny_comprehension_free (use := none) rfl hs c1 ok.kind ok.names (thn (hi pins s σ H _ I h) fun v s1 h1 => thn h1 fun itv s2 h2 => ?_)
 obtain ⟨it, fp, tn, J, H2, e, I2, T, st2, f2, hw⟩ := h2
 subst e
 refine wpAny_mono (zhm (iter := iter) (pos := pos) hc ok c2 c3 hg ht he I2 T st2 f2 hw) (fun acc s3 h3 => wpAny_mono h3 (fun cenv s4 h4 => ?_) fun _ _ z => z) fun _ _ z => z
 refine codeAny_mono h4 fun r s5 h5 => ?_
 obtain ⟨rfl, ⟨m, hm⟩, v, H5, rv, I5, f5, q5⟩ := h5
 refine ⟨m, hm, fun h' sb => ?_⟩
 obtain ⟨f0, f1, _, f3, f4, f6⟩ := f5
 exact ⟨v, H5, I5.turned (t' := s5.toks) (fun b o hb e => (sb.2 b hb).trans e) f0 f1 f3 f4 f6, rv, q5⟩
theorem zeM {i : Nat} {x : Str} {px : Pos} {spos : Pos} (hN : X.N.Nodup) (hi' : X.N[i]? = some x) (hx : Loc X.env.scope x) (hc : X.calm = true) (ok : CapOk X N' js scope) (hi : PI X tg iter wi)
 (hg : ∀ cl C s₀ H₀ ex, PG (lcx X N' scope cl C s₀ H₀ ex) tg g) (ht : ∀ cl C s₀ H₀ ex, PIfs (lcx X N' scope cl C s₀ H₀ ex) ifs tc) (he : ∀ cl C s₀ H₀ ex, PE (lcx X N' scope cl C s₀ H₀ ex) elt te)
 (hsw : swapsWith (.ListComp elt [⟨tg, iter, ifs, 0⟩] scope pos) (some (.Name x px)) spos.line X.env = pure true := by rfl)
 (hs : ∀ x, foldedSetIterable iter X.env x = pure x := by intro _; rfl) (hf : X.fn x = true ∨ X.env.scope.names.lookup x = some .local := by first | exact .inl rfl | exact .inr rfl | assumption) :
 PS X (.Assign [.Name x px] (.ListComp elt [⟨tg, iter, ifs, 0⟩] scope pos) spos) (tAsg (tLC wi js g tc te) (zcO i)) := by
 intro pins s σ H D I h
 obtain ⟨cl, c1, c2, c3⟩ := zd9 (scope := scope) I.ok.has ok.free
 rw [exec_Assign_Name_used _ _ _ _ hsw]
 refine wpAny_bind (wpAny_standAt (wpAny_bind ?_))
 show wpAny _ X.A (do let _ ← comprehension (.ListComp elt [⟨tg, iter, ifs, 0⟩] scope pos) scope X.env _ (newList []) false (eval iter X.env) (some (assign (.Name x px) X.env))) _ _ s
 refine wpAny_bind (wpAny_mono (wpAny_comprehension_free (use := some (assign (.Name x px) X.env)) (Q := fun _ s' => SP X pins D .next s') rfl hs c1 ok.kind ok.names
  (thn (hi pins s σ H _ I h) fun v s1 h1 => thn h1 fun itv s2 h2 => ?_)) (fun _ s' hq => wpAny_pure (wpAny_pure hq)) fun _ _ e => e)
 obtain ⟨it, fp, tn, J, H2, e, I2, T, st2, f2, hw⟩ := h2
 subst e
 refine wpAny_mono (zhm (Q := fun x H1 => zcO i x σ H1 D.nx) (iter := iter) (pos := pos) hc ok c2 c3 hg ht he I2 T st2 f2 hw) (fun acc s3 h3 => wpAny_mono h3 (fun cenv s4 h4 => ?_) fun _ _ z => z) fun _ _ z => z
 refine codeAny_mono h4 fun r s5 h5 => ?_
 obtain ⟨rfl, ⟨m, hm⟩, v, H5, rv, I5, f5, q5⟩ := h5
 obtain ⟨f0, f1, f2', f3, f4, f6⟩ := f5
 show wpAny _ X.A (assign (.Name x px) X.env acc) _ _ _
 refine wpAny_assign_Name (zdJ I5 hN hi' hx rv (fun s6 I6 ch => ?_) hf)
 obtain ⟨a, sb, ha⟩ := ch
 have na : cenv.locals ≠ a := by
  rcases ha with z | z
  · rw [z]; exact f1
  · exact fun y => f4 x a z y.symm
 refine ⟨m, hm.sameBut sb na, fun h' sb' => ⟨_, H5, I6.turned (t' := s6.toks) (fun b o hb e => (sb'.2 b hb).trans e) f0 f1 f3 f4 f6, q5⟩⟩
end
end L2
set_option exponentiation.threshold 2000
namespace L2
open PySem PySem.Spec PyProof.Rows
def zlR (i j : Int) : Prop := 0 ≤ j ∧ j ≤ 1000 ∧ i.natAbs < 2 ^ 1000
def zmj (i j : Int) : Prop := 0 < j ∧ j < 2 ^ 1000
section
variable {X : Cx}
theorem zbN : OpR X (binaryOp .Pow) (rI zlR fun i j => .int (i ^ j.toNat)) := opI fun i j _ _ _ _ _ hc q => by
 obtain ⟨h0, h1, h2⟩ := hc
 refine pow_int h0 ?_ q
 have hb : Builtin.Int.intBits i ≤ 1000 := intBits_le h2
 have e1 : ((Builtin.Int.intBits i : Nat) : Int) * j ≤ 1000 * 1000 := by
  have a1 : ((Builtin.Int.intBits i : Nat) : Int) * j ≤ 1000 * j := Int.mul_le_mul_of_nonneg_right (by omega) h0
  have a2 : 1000 * j ≤ 1000 * 1000 := Int.mul_le_mul_of_nonneg_left h1 (by decide)
  exact Int.le_trans a1 a2
 exact Int.le_trans e1 (by decide)
theorem zhh : OpR X (binaryOp .FloorDiv) (rI zmj fun i j => .int (i / j)) := opI fun i j _ _ _ _ _ hc q => by
 obtain ⟨h0, h1⟩ := hc
 refine floordiv_int (by omega) ?_ (.inl (PyProof.noPylong_of_log2 ?_))
 · rw [Int.fdiv_eq_ediv_of_nonneg _ (by omega)]
   exact q
 · have h2 : j.natAbs < 2 ^ 1000 := by
    have e : ((j.natAbs : Nat) : Int) = j := by omega
    have h3 : ((j.natAbs : Nat) : Int) < ((2 ^ 1000 : Nat) : Int) := by
     rw [e, Int.natCast_pow]
     exact h1
    exact Int.ofNat_lt.mp h3
   have h4 : j.natAbs ≠ 0 := by omega
   have h5 := (Nat.log2_lt h4).mpr h2
   omega
end
inductive PD where
 | non | bl (b : Bool) | int (i : Int) | str (x : Str) | lst (ds : List PD) | tup (ds : List PD)
mutual
def Rep (K : PySem.W.Frag) (H : Hp) : PD → V → Prop
 | .non, v => v = .non
 | .bl b, v => v = .bl b
 | .int i, v => v = .int i
 | .str x, v => v = .str x
 | .lst ds, v => ∃ a xs, v = .ref a ∧ SqL K H a xs ∧ Reps K H ds xs
 | .tup ds, v => ∃ a xs, v = .ref a ∧ SqT K H a xs ∧ Reps K H ds xs
def Reps (K : PySem.W.Frag) (H : Hp) : List PD → List V → Prop
 | [], xs => xs = []
 | d :: ds, xs => ∃ x r, xs = x :: r ∧ Rep K H d x ∧ Reps K H ds r
end
mutual
def pyEq : PD → PD → Bool
 | .non, .non => true
 | .bl a, .bl b => a == b
 | .bl a, .int b => (if a then 1 else 0) == b
 | .int a, .bl b => a == (if b then 1 else 0)
 | .int a, .int b => a == b
 | .str a, .str b => a == b
 | .lst xs, .lst ys => zcV xs ys
 | .tup xs, .tup ys => zcV xs ys
 | _, _ => false
def zcV : List PD → List PD → Bool
 | [], [] => true
 | x :: xs, y :: ys => pyEq x y && zcV xs ys
 | _, _ => false
end
mutual
def zbW : PD → Nat
 | .lst ds => zbO ds + 1
 | .tup ds => zbO ds + 1
 | _ => 0
def zbO : List PD → Nat
 | [] => 0
 | d :: ds => max (zbW d) (zbO ds)
end
mutual
theorem za7 : ∀ d : PD, pyEq d d = true
 | .non => rfl
 | .bl b => by simp [pyEq]
 | .int i => by simp [pyEq]
 | .str x => by simp [pyEq]
 | .lst ds => by rw [pyEq]; exact zcA ds
 | .tup ds => by rw [pyEq]; exact zcA ds
theorem zcA : ∀ ds : List PD, zcV ds ds = true
 | [] => by rw [zcV]
 | d :: ds => by rw [zcV, za7 d, zcA ds]; rfl
end
theorem Reps.length {K : PySem.W.Frag} {H : Hp} : ∀ {ds : List PD} {xs : List V}, Reps K H ds xs → xs.length = ds.length
 | [], xs, h => by rw [Reps] at h; rw [h]; rfl
 | d :: ds, xs, h => by
  rw [Reps] at h
  obtain ⟨x, r, rfl, _, h⟩ := h
  rw [List.length_cons, List.length_cons, Reps.length h]
theorem zbk : ∀ {xs ys : List PD}, xs.length ≠ ys.length → zcV xs ys = false
 | [], [], h => absurd rfl h
 | [], _ :: _, _ => by rw [zcV]; all_goals simp
 | _ :: _, [], _ => by rw [zcV]; all_goals simp
 | x :: xs, y :: ys, h => by
  rw [zcV, zbk (xs := xs) (ys := ys) (by simpa using h)]
  simp
def eqJ (xs ys : List PD) (j : Nat) : Bool := match xs[j]?, ys[j]? with
 | some a, some b => pyEq a b
 | _, _ => false
theorem za0 : ∀ (xs ys : List PD), xs.length = ys.length → (List.range xs.length).all (eqJ xs ys) = zcV xs ys
 | [], [], _ => by rw [zcV]; rfl
 | x :: xs, y :: ys, h => by
  rw [zcV, List.length_cons, List.range_succ_eq_map, List.all_cons, List.all_map]
  rw [← za0 xs ys (by simpa using h)]
  rfl
theorem SqT.notL {K : PySem.W.Frag} {X : Cx} {pins : List (Addr × Obj)} {σ : St} {H : Hp} {s : Shared} {a : Addr} {xs ys : List V} (I : Inv X pins σ H s) (h : SqT X.K H a xs) (h' : SqL X.K H a ys) : False := by
 obtain ⟨its, _, p, _⟩ := I.tuple h
 obtain ⟨its', _, p', _⟩ := I.list h'
 exact SeqAt.ne_of_list_tuple p'.isList (show s.heap.IsTuple a its.toArray from p) rfl
section
variable {X : Cx} {pins : List (Addr × Obj)} {σ : St} {H : Hp} {s : Shared}
mutual
theorem zgt (I : Inv X pins σ H s) : ∀ (d e : PD) (v : V), Rep X.K H d v → Rep X.K H e v → d = e
 | .non, e, v, h, h' => by
  rw [Rep] at h; subst h
  cases e <;> rw [Rep] at h' <;> first | rfl | (obtain ⟨_, _, z, _⟩ := h'; cases z; done) | (cases h'; done)
 | .bl b, e, v, h, h' => by
  rw [Rep] at h; subst h
  cases e <;> rw [Rep] at h' <;> first | (obtain ⟨_, _, z, _⟩ := h'; cases z; done) | (cases h'; done) | (cases h'; rfl)
 | .int i, e, v, h, h' => by
  rw [Rep] at h; subst h
  cases e <;> rw [Rep] at h' <;> first | (obtain ⟨_, _, z, _⟩ := h'; cases z; done) | (cases h'; done) | (cases h'; rfl)
 | .str x, e, v, h, h' => by
  rw [Rep] at h; subst h
  cases e <;> rw [Rep] at h' <;> first | (obtain ⟨_, _, z, _⟩ := h'; cases z; done) | (cases h'; done) | (cases h'; rfl)
 | .lst ds, e, v, h, h' => by
  rw [Rep] at h
  obtain ⟨a, xs, rfl, q, r⟩ := h
  cases e with
  | lst es =>
   rw [Rep] at h'
   obtain ⟨a', ys, z, q', r'⟩ := h'
   cases z
   have := I.list_inj q q'
   subst this
   rw [zeH I ds es xs r r']
  | tup es =>
   rw [Rep] at h'
   obtain ⟨a', ys, z, q', r'⟩ := h'
   cases z
   exact (SqT.notL (K := X.K) I q' q).elim
  | _ => rw [Rep] at h'; cases h'
 | .tup ds, e, v, h, h' => by
  rw [Rep] at h
  obtain ⟨a, xs, rfl, q, r⟩ := h
  cases e with
  | tup es =>
   rw [Rep] at h'
   obtain ⟨a', ys, z, q', r'⟩ := h'
   cases z
   have := I.tuple_inj q q'
   subst this
   rw [zeH I ds es xs r r']
  | lst es =>
   rw [Rep] at h'
   obtain ⟨a', ys, z, q', r'⟩ := h'
   cases z
   exact (SqT.notL (K := X.K) I q q').elim
  | _ => rw [Rep] at h'; cases h'
theorem zeH (I : Inv X pins σ H s) : ∀ (ds es : List PD) (vs : List V), Reps X.K H ds vs → Reps X.K H es vs → ds = es
 | [], es, vs, h, h' => by
  rw [Reps] at h; subst h
  cases es with
  | nil => rfl
  | cons e es => rw [Reps] at h'; obtain ⟨_, _, z, _⟩ := h'; cases z
 | d :: ds, es, vs, h, h' => by
  rw [Reps] at h
  obtain ⟨x, r, rfl, h1, h2⟩ := h
  cases es with
  | nil => rw [Reps] at h'; cases h'
  | cons e es =>
   rw [Reps] at h'
   obtain ⟨x', r', z, h1', h2'⟩ := h'
   cases z
   rw [zgt I d e x h1 h1', zeH I ds es r h2 h2']
end
mutual
theorem zda (I : Inv X pins σ H s) : ∀ (A : Around) (d e : PD) (v w : V) (u y : Value), Rep X.K H d v → Rep X.K H e w → RelV v u → RelV w y → A.units + zbW d < cLine → SeqAt.EqAt A s u y (pyEq d e)
 | A, .non, e, v, w, u, y, h, h', r, r', z => by
  rw [Rep] at h; subst h; cases r
  cases e with
  | non => rw [Rep] at h'; subst h'; cases r'; rw [pyEq]; exact SeqAt.EqAt.same _
  | bl b => rw [Rep] at h'; subst h'; cases r'; exact SeqAt.EqAt.none_bool b
  | int b => rw [Rep] at h'; subst h'; obtain ⟨t, rfl⟩ := r'; exact SeqAt.EqAt.none_int b t
  | str b => rw [Rep] at h'; subst h'; obtain ⟨t, rfl⟩ := r'; exact SeqAt.EqAt.none_str b t
  | lst es => rw [Rep] at h'; obtain ⟨a, xs, rfl, q, _⟩ := h'; cases r'; obtain ⟨its, _, p, _⟩ := I.list q; exact SeqAt.EqAt.none_list p.isList (by omega)
  | tup es => rw [Rep] at h'; obtain ⟨a, xs, rfl, q, _⟩ := h'; cases r'; obtain ⟨its, _, p, _⟩ := I.tuple q; exact SeqAt.EqAt.none_tuple p (by omega)
 | A, .bl c, e, v, w, u, y, h, h', r, r', z => by
  rw [Rep] at h; subst h; cases r
  cases e with
  | non => rw [Rep] at h'; subst h'; cases r'; exact SeqAt.EqAt.bool_none c
  | bl b => rw [Rep] at h'; subst h'; cases r'; exact SeqAt.EqAt.bool_bool c b
  | int b => rw [Rep] at h'; subst h'; obtain ⟨t, rfl⟩ := r'; exact SeqAt.EqAt.bool_int c b t
  | str b => rw [Rep] at h'; subst h'; obtain ⟨t, rfl⟩ := r'; exact SeqAt.EqAt.bool_str c b t
  | lst es => rw [Rep] at h'; obtain ⟨a, xs, rfl, q, _⟩ := h'; cases r'; obtain ⟨its, _, p, _⟩ := I.list q; exact SeqAt.EqAt.bool_list c p.isList (by omega)
  | tup es => rw [Rep] at h'; obtain ⟨a, xs, rfl, q, _⟩ := h'; cases r'; obtain ⟨its, _, p, _⟩ := I.tuple q; exact SeqAt.EqAt.bool_tuple c p (by omega)
 | A, .int c, e, v, w, u, y, h, h', r, r', z => by
  rw [Rep] at h; subst h; obtain ⟨tc, rfl⟩ := r
  cases e with
  | non => rw [Rep] at h'; subst h'; cases r'; exact SeqAt.EqAt.int_none c tc
  | bl b => rw [Rep] at h'; subst h'; cases r'; exact SeqAt.EqAt.int_bool c tc b
  | int b => rw [Rep] at h'; subst h'; obtain ⟨t, rfl⟩ := r'; exact SeqAt.EqAt.int_int c tc b t
  | str b => rw [Rep] at h'; subst h'; obtain ⟨t, rfl⟩ := r'; exact SeqAt.EqAt.int_str c tc b t
  | lst es => rw [Rep] at h'; obtain ⟨a, xs, rfl, q, _⟩ := h'; cases r'; obtain ⟨its, _, p, _⟩ := I.list q; exact SeqAt.EqAt.int_list c tc p.isList (by omega)
  | tup es => rw [Rep] at h'; obtain ⟨a, xs, rfl, q, _⟩ := h'; cases r'; obtain ⟨its, _, p, _⟩ := I.tuple q; exact SeqAt.EqAt.int_tuple c tc p (by omega)
 | A, .str c, e, v, w, u, y, h, h', r, r', z => by
  rw [Rep] at h; subst h; obtain ⟨tc, rfl⟩ := r
  cases e with
  | non => rw [Rep] at h'; subst h'; cases r'; exact SeqAt.EqAt.str_none c tc
  | bl b => rw [Rep] at h'; subst h'; cases r'; exact SeqAt.EqAt.str_bool c tc b
  | int b => rw [Rep] at h'; subst h'; obtain ⟨t, rfl⟩ := r'; exact SeqAt.EqAt.str_int c tc b t
  | str b => rw [Rep] at h'; subst h'; obtain ⟨t, rfl⟩ := r'; exact SeqAt.EqAt.str_str c tc b t
  | lst es => rw [Rep] at h'; obtain ⟨a, xs, rfl, q, _⟩ := h'; cases r'; obtain ⟨its, _, p, _⟩ := I.list q; exact SeqAt.EqAt.str_list c tc p.isList (by omega)
  | tup es => rw [Rep] at h'; obtain ⟨a, xs, rfl, q, _⟩ := h'; cases r'; obtain ⟨its, _, p, _⟩ := I.tuple q; exact SeqAt.EqAt.str_tuple c tc p (by omega)
 | A, .lst ds, e, v, w, u, y, h, h', r, r', z => by
  have h0 := h
  rw [Rep] at h; obtain ⟨a, xs, rfl, q, qs⟩ := h; cases r
  obtain ⟨its, rv, p, _⟩ := I.list q
  cases e with
  | non => rw [Rep] at h'; subst h'; cases r'; exact SeqAt.EqAt.list_none p.isList (by omega)
  | bl b => rw [Rep] at h'; subst h'; cases r'; exact SeqAt.EqAt.list_bool b p.isList (by omega)
  | int b => rw [Rep] at h'; subst h'; obtain ⟨t, rfl⟩ := r'; exact SeqAt.EqAt.list_int b t p.isList (by omega)
  | str b => rw [Rep] at h'; subst h'; obtain ⟨t, rfl⟩ := r'; exact SeqAt.EqAt.list_str b t p.isList (by omega)
  | tup es => rw [Rep] at h'; obtain ⟨b, ys, rfl, q', _⟩ := h'; cases r'; obtain ⟨its', _, p', _⟩ := I.tuple q'; exact SeqAt.EqAt.list_tuple p.isList p' (by omega)
  | lst es =>
   have h0' := h'
   rw [Rep] at h'; obtain ⟨b, ys, rfl, q', qs'⟩ := h'; cases r'
   obtain ⟨its', rv', p', _⟩ := I.list q'
   by_cases hab : a = b
   · subst hab
     rw [zgt I _ _ _ h0 h0', za7]
     exact SeqAt.EqAt.same _
   · refine SeqAt.EqAt.of_refs hab ?_
     rw [pyEq]
     rw [zbW] at z
     have l1 := qs.length
     have l2 := qs'.length
     have l3 := rv.length
     have l4 := rv'.length
     by_cases hl : ds.length = es.length
     · rw [← za0 ds es hl]
       have := SeqAt.RcAt.lists (e := eqJ ds es) p.isList p'.isList (by simp; omega) (by omega) (fun j h1 h2 => ?_) (A := A)
       · simp only [List.size_toArray] at this
         rw [show ds.length = its.length by omega]
         exact this
       · have := zbA I A.in1 ds es xs ys its its' qs qs' rv rv' (by rw [Around.in1_units]; omega) j (by simpa using h1) (by simpa using h2)
         simpa using this
     · rw [zbk hl]
       exact SeqAt.RcAt.lists_lengths p.isList p'.isList (by simp; omega) (by omega)
 | A, .tup ds, e, v, w, u, y, h, h', r, r', z => by
  have h0 := h
  rw [Rep] at h; obtain ⟨a, xs, rfl, q, qs⟩ := h; cases r
  obtain ⟨its, rv, p, _⟩ := I.tuple q
  cases e with
  | non => rw [Rep] at h'; subst h'; cases r'; exact SeqAt.EqAt.tuple_none p (by omega)
  | bl b => rw [Rep] at h'; subst h'; cases r'; exact SeqAt.EqAt.tuple_bool b p (by omega)
  | int b => rw [Rep] at h'; subst h'; obtain ⟨t, rfl⟩ := r'; exact SeqAt.EqAt.tuple_int b t p (by omega)
  | str b => rw [Rep] at h'; subst h'; obtain ⟨t, rfl⟩ := r'; exact SeqAt.EqAt.tuple_str b t p (by omega)
  | lst es => rw [Rep] at h'; obtain ⟨b, ys, rfl, q', _⟩ := h'; cases r'; obtain ⟨its', _, p', _⟩ := I.list q'; exact SeqAt.EqAt.tuple_list p p'.isList (by omega)
  | tup es =>
   have h0' := h'
   rw [Rep] at h'; obtain ⟨b, ys, rfl, q', qs'⟩ := h'; cases r'
   obtain ⟨its', rv', p', _⟩ := I.tuple q'
   by_cases hab : a = b
   · subst hab
     rw [zgt I _ _ _ h0 h0', za7]
     exact SeqAt.EqAt.same _
   · refine SeqAt.EqAt.of_refs hab ?_
     rw [pyEq]
     rw [zbW] at z
     have l1 := qs.length
     have l2 := qs'.length
     have l3 := rv.length
     have l4 := rv'.length
     have := SeqAt.RcAt.tuples (e := eqJ ds es) p p' (by omega) (fun j h1 h2 => ?_) (A := A)
     · simp only [List.size_toArray] at this
       by_cases hl : ds.length = es.length
       · rw [← za0 ds es hl]
         rw [show min its.length its'.length = ds.length by omega, show (its.length == its'.length) = true by simp; omega, Bool.and_true] at this
         exact this
       · rw [zbk hl]
         rw [show (its.length == its'.length) = false by simp; omega, Bool.and_false] at this
         exact this
     · have := zbA I A.in1 ds es xs ys its its' qs qs' rv rv' (by rw [Around.in1_units]; omega) j (by simpa using h1) (by simpa using h2)
       simpa using this
theorem zbA (I : Inv X pins σ H s) : ∀ (A : Around) (ds es : List PD) (vs ws : List V) (us ys : List Value), Reps X.K H ds vs → Reps X.K H es ws → Vals vs us → Vals ws ys → A.units + zbO ds < cLine →
 ∀ (j : Nat) (h1 : j < us.length) (h2 : j < ys.length), SeqAt.EqAt A s us[j] ys[j] (eqJ ds es j)
 | A, [], es, vs, ws, us, ys, h, h', r, r', z => by
  rw [Reps] at h; subst h; cases r
  intro j h1; exact absurd h1 (Nat.not_lt_zero _)
 | A, d :: ds, es, vs, ws, us, ys, h, h', r, r', z => by
  rw [Reps] at h
  obtain ⟨x, vr, rfl, g1, g2⟩ := h
  cases es with
  | nil =>
   rw [Reps] at h'; subst h'; cases r'
   intro j h1 h2; exact absurd h2 (Nat.not_lt_zero _)
  | cons e es =>
   rw [Reps] at h'
   obtain ⟨x', vr', rfl, g1', g2'⟩ := h'
   cases r with
   | cons ra rb =>
    cases r' with
    | cons ra' rb' =>
     rw [zbO] at z
     intro j h1 h2
     cases j with
     | zero => exact zda I A d e x x' _ _ g1 g1' ra ra' (by omega)
     | succ j => exact zbA I A ds es vr vr' _ _ g2 g2' rb rb' (by omega) j (by simpa using h1) (by simpa using h2)
end
end
section
variable {prog : Program} {w : World} {A : Around} {R : Result → Shared → Prop} {J : Addr} {fo wo : List Addr} {len : Nat} {At : Nat → Value → Prop} {Sx : Nat → Heap → Prop}
theorem ziK (kw : List (Str × Value)) (Z : Walks prog w A.in1 J fo wo len At Sx) (bt : Nat → Nat → Bool) (cm : CmpOf prog w A.in1 .Gt At bt) (B : Addr) (nB : B ∉ fo) :
 ∀ (k j : Nat) (s : Shared) (best : Value) (c : Nat), len - (j + 1) = k → j + 1 ≤ len → Sx (j + 1) s.heap → At (argBest bt j) best →
 s.heap.get? B = some { cls := .type "list", dict := none, data := .seq #[best, best] c, slots := #[] } →
 (∀ v g t', At (argBest bt (len - 1)) v → (∀ b o, b ∉ wo → b ≠ B → s.heap.get? b = some o → g.get? b = some o) → R (.ok (.ret v)) { s with heap := g, toks := t' }) →
 codeAny (model prog w) A (.builtin "max.loop" ⟨[.ref J, .none, .ref B], kw⟩) R s := by
 have nW : B ∉ wo := fun z => nB (Z.sub _ z)
 have nm : (toString "max" ++ toString ".loop" : String) = "max.loop" := by decide
 intro k
 induction k with
 | zero =>
  intro j s best c e0 e1 sx ab eB fin
  have last : j + 1 = len := by omega
  refine codeAny_builtin F.entry_max_loop ?_
  rw [Around.under_plainId F.plain_max_loop _]
  show wpAny _ _ (seqItems? (.ref B) >>= _) _ _ _
  refine wpAny_bind (wpAny_seqItems eB rfl ?_)
  show wpAny _ _ (tryCatch (pyNext (.ref J)) _ >>= _) _ _ _
  refine wpAny_bind (wpAny_tryCatch (Z.done s _ _ (last ▸ sx) fun g t' kp => ?_))
  have eB' := kp B _ nW eB
  show wpAny _ _ (updateSeq B (fun _ => #[]) >>= _) _ _ _
  refine wpAny_bind ?_
  refine wpAny_updateSeq eB' rfl (wpAny_bind (wpAny_letGo (wpAny_pure ?_)))
  exact fin best _ t' (by rw [← last]; exact ab) fun b o h1 h2 e => (Heap.get?_update_other _ _ (Ne.symm h2)).trans (kp b o h1 e)
 | succ k ih =>
  intro j s best c e0 e1 sx ab eB fin
  have more : j + 1 < len := by omega
  refine codeAny_builtin F.entry_max_loop ?_
  rw [Around.under_plainId F.plain_max_loop _]
  show wpAny _ _ (seqItems? (.ref B) >>= _) _ _ _
  refine wpAny_bind (wpAny_seqItems eB rfl ?_)
  show wpAny _ _ (tryCatch (pyNext (.ref J)) _ >>= _) _ _ _
  refine wpAny_bind (wpAny_tryCatch (Z.item (j + 1) s _ _ more sx fun v g t' av sx' kp => ?_))
  have eB' := kp B _ nW eB
  show wpAny _ _ (tryCatch (holding [v, v] (richCompare .Gt v best >>= _)) _ >>= _) _ _ _
  refine wpAny_bind (wpAny_tryCatch (wpAny_holding (wpAny_bind (cm (j + 1) (argBest bt j) v best _ _ _ av ab ?_))))
  refine wpAny_bind (wpAny_holding (wpAny_truthy_bool ?_))
  refine wpAny_bind (wpAny_letGo (wpAny_pure ?_))
  cases hb : bt (j + 1) (argBest bt j) with
  | true =>
   simp only [if_true]
   refine wpAny_bind ?_
   refine wpAny_updateSeq eB' rfl (wpAny_bind (wpAny_letGo ?_))
   rw [nm]
   refine wpAny_pure ⟨plainId_quiet F.plain_max_loop _, ih (j + 1) _ v _ (by omega) more (Z.frame _ _ _ sx' fun b h1 o e => ?_) (by simp only [argBest, hb, if_true]; exact av) (Heap.get?_update_self _ eB' rfl)
    fun v' g' t'' av' kp' => ?_⟩
   · exact (Heap.get?_update_other _ _ (fun z : B = b => nB (by rw [z]; exact h1))).trans e
   · exact fin v' g' t'' av' fun b o h1 h2 e => kp' b o h1 h2 ((Heap.get?_update_other _ _ (Ne.symm h2)).trans (kp b o h1 e))
  | false =>
   simp only [Bool.false_eq_true, if_false]
   refine wpAny_bind (wpAny_letGo ?_)
   rw [nm]
   refine wpAny_pure ⟨plainId_quiet F.plain_max_loop _, ih (j + 1) _ best c (by omega) more sx' (by simp only [argBest, hb, Bool.false_eq_true, if_false]; exact ab) eB' fun v' g' t'' av' kp' => ?_⟩
   exact fin v' g' t'' av' fun b o h1 h2 e => kp' b o h1 h2 (kp b o h1 e)
theorem zhV (d : Value) (Z : Walks prog w A.in1 J fo wo len At Sx) (bt : Nat → Nat → Bool) (cm : CmpOf prog w A.in1 .Gt At bt) (B : Addr) (nB : B ∉ fo) {s : Shared} {c : Nat} (sx : Sx 0 s.heap)
 (eB : s.heap.get? B = some { cls := .type "list", dict := none, data := .seq #[] c, slots := #[] })
 (fin : ∀ v g t', (len = 0 → v = d) → (0 < len → At (argBest bt (len - 1)) v) → (∀ b o, b ∉ wo → b ≠ B → s.heap.get? b = some o → g.get? b = some o) → R (.ok (.ret v)) { s with heap := g, toks := t' }) :
 codeAny (model prog w) A (.builtin "max.loop" ⟨[.ref J, .none, .ref B], [("default", d)]⟩) R s := by
 have nW : B ∉ wo := fun z => nB (Z.sub _ z)
 have nm : (toString "max" ++ toString ".loop" : String) = "max.loop" := by decide
 refine codeAny_builtin F.entry_max_loop ?_
 rw [Around.under_plainId F.plain_max_loop _]
 show wpAny _ _ (seqItems? (.ref B) >>= _) _ _ _
 refine wpAny_bind (wpAny_seqItems eB rfl ?_)
 show wpAny _ _ (tryCatch (pyNext (.ref J)) _ >>= _) _ _ _
 by_cases hl : len = 0
 · refine wpAny_bind (wpAny_tryCatch (Z.done s _ _ (hl ▸ sx) fun g t' kp => ?_))
   refine wpAny_bind (wpAny_rule (wpAny_pure ?_))
   exact fin d g t' (fun _ => rfl) (fun z => by omega) fun b o h1 _ e => kp b o h1 e
 · refine wpAny_bind (wpAny_tryCatch (Z.item 0 s _ _ (by omega) sx fun v g t' av sx' kp => ?_))
   have eB' := kp B _ nW eB
   show wpAny _ _ (updateSeq B (fun _ => #[v, v]) >>= _) _ _ _
   refine wpAny_bind ?_
   refine wpAny_updateSeq eB' rfl ?_
   rw [nm]
   refine wpAny_pure ⟨plainId_quiet F.plain_max_loop _, ziK [("default", d)] Z bt cm B nB _ 0 _ v _ rfl (by omega) (Z.frame _ _ _ sx' fun b h1 o e => ?_) av (Heap.get?_update_self _ eB' rfl) fun v' g' t'' av' kp' => ?_⟩
   · exact (Heap.get?_update_other _ _ (fun z : B = b => nB (by rw [z]; exact h1))).trans e
   · exact fin v' g' t'' (fun z => by omega) (fun _ => av') fun b o h1 h2 e => kp' b o h1 h2 ((Heap.get?_update_other _ _ (Ne.symm h2)).trans (kp b o h1 e))
theorem zhW (a d : Value) : argsOk "max" ⟨[a], [("default", d)]⟩ := by unfold argsOk; kernel_rfl
theorem zgQ {E : Value → Shared → Prop} {s : Shared} {a : Addr} {its : Array Value} {d : Value} {Q : Value → Shared → Prop} (hh : A.handled = none) (hl : s.heap.IsList a its) (bt : Nat → Nat → Bool)
 (cm : CmpOf prog w A.in1 .Gt (fun i v => its[i]? = some v) bt)
 (fin : ∀ v g t', (its.size = 0 → v = d) → (0 < its.size → its[argBest bt (its.size - 1)]? = some v) → (∀ b o, s.heap.get? b = some o → g.get? b = some o) → Q v { s with heap := g, toks := t' }) :
 wpAny (model prog w) A (call (.builtin "max") [.ref a] [("default", d)]) Q E s := by
 have nm : (toString "max" ++ toString ".loop" : String) = "max.loop" := by decide
 refine wpAny_call (codeAny_call_builtin F.plain_max F.entry_max ?_)
 have body : wpAny (model prog w) A.in1 (Builtin.«max» ⟨[.ref a], [("default", d)]⟩) (fun fin s' => match fin with
  | .done f => (match (Except.ok f : Result) with | .ok (.ret v) => Q v s' | .ok _ => False | .error e => E e s')
  | .again c' => c'.quiet = true ∧ codeAny (model prog w) A c' (fun r s' => match r with | .ok (.ret v) => Q v s' | .ok _ => False | .error e => E e s') s') E s := by
  show wpAny _ A.in1 (Builtin.Builtins.bindParams "max" ["key", "default"] 0 ⟨[], [("default", d)]⟩ >>= _) _ _ s
  refine wpAny_bind (wpAny_of_eq (show Builtin.Builtins.bindParams "max" ["key", "default"] 0 ⟨[], [("default", d)]⟩ = pure [none, some d] from rfl) ?_)
  refine wpAny_bind (wpAny_pure ?_)
  refine wpAny_bind (wpAny_pyIter_list hl ?_)
  refine wpAny_bind (wpAny_newObj_type ?_)
  rw [nm]
  obtain ⟨o, ho, _⟩ := id hl
  have lt := Heap.lt_size ho
  have sz : (s.heap.push { cls := .type "list_iterator", data := .fields #[.ref a, .int 0 0] }).objs.size = s.heap.objs.size + 1 := Heap.size_push _ _
  have kp : ∀ b o', s.heap.get? b = some o' → ((s.heap.push { cls := .type "list_iterator", data := .fields #[.ref a, .int 0 0] }).push { cls := .type "list", dict := none, data := .seq ([] : List Value).toArray }).get? b = some o' :=
   fun b o' e => Heap.get?_push_of_some _ (Heap.get?_push_of_some _ e)
  refine wpAny_pure ⟨plainId_quiet F.plain_max_loop _, zhV d (Walks.list (A := A.in1) hh s.heap.objs.size a (Nat.ne_of_lt lt) its) bt cm _ ?_
   ⟨⟨_, Heap.get?_push_of_some _ (Heap.get?_push_size _ rfl), rfl, rfl⟩, hl.at fun o' e => kp a o' e⟩ (Heap.get?_push_size _ rfl) fun v g t' h1 h2 h3 => ?_⟩
  · show (s.heap.push _).objs.size ∉ [s.heap.objs.size, a]
    rw [sz]
    intro z
    rcases List.mem_cons.mp z with z | z
    · exact Nat.succ_ne_self _ z
    · have z' := List.mem_singleton.mp z
      rw [← z'] at lt
      exact absurd lt (Nat.not_lt.mpr (Nat.le_succ _))
  · refine fin v g t' h1 h2 fun b o' e => h3 b o' ?_ ?_ (kp b o' e)
    · intro z
      exact absurd (List.mem_singleton.mp z) (Nat.ne_of_lt (Heap.lt_size e))
    · have := Heap.lt_size e
      show b ≠ (s.heap.push _).objs.size
      rw [sz]
      exact Nat.ne_of_lt (Nat.lt_succ_of_lt this)
 simp only [checkBuiltinCall, F.kind_max]
 cases hsig : Manifest.signature? "max" with
 | none => exact wpAny_pure body
 | some sig =>
  have ha' : Bind.checkArgs "max" sig ⟨[.ref a], [("default", d)]⟩ = pure () := by
   have := zhW (.ref a) d
   simpa only [argsOk, hsig] using this
  simp only [ha']
  exact wpAny_pure body
end
section
variable {prog : Program} {w : World} {A : Around} {R : Result → Shared → Prop} {J : Addr} {fo wo : List Addr} {len : Nat} {At : Nat → Value → Prop} {Sx : Nat → Heap → Prop}
theorem ziJ (kw : List (Str × Value)) (Z : Walks prog w A.in1 J fo wo len At Sx) (bt : Nat → Nat → Bool) (cm : CmpOf prog w A.in1 .Lt At bt) (B : Addr) (nB : B ∉ fo) :
 ∀ (k j : Nat) (s : Shared) (best : Value) (c : Nat), len - (j + 1) = k → j + 1 ≤ len → Sx (j + 1) s.heap → At (argBest bt j) best →
 s.heap.get? B = some { cls := .type "list", dict := none, data := .seq #[best, best] c, slots := #[] } →
 (∀ v g t', At (argBest bt (len - 1)) v → (∀ b o, b ∉ wo → b ≠ B → s.heap.get? b = some o → g.get? b = some o) → R (.ok (.ret v)) { s with heap := g, toks := t' }) →
 codeAny (model prog w) A (.builtin "min.loop" ⟨[.ref J, .none, .ref B], kw⟩) R s := by
 have nW : B ∉ wo := fun z => nB (Z.sub _ z)
 have nm : (toString "min" ++ toString ".loop" : String) = "min.loop" := by decide
 intro k
 induction k with
 | zero =>
  intro j s best c e0 e1 sx ab eB fin
  have last : j + 1 = len := by omega
  refine codeAny_builtin F.entry_min_loop ?_
  rw [Around.under_plainId F.plain_min_loop _]
  show wpAny _ _ (seqItems? (.ref B) >>= _) _ _ _
  refine wpAny_bind (wpAny_seqItems eB rfl ?_)
  show wpAny _ _ (tryCatch (pyNext (.ref J)) _ >>= _) _ _ _
  refine wpAny_bind (wpAny_tryCatch (Z.done s _ _ (last ▸ sx) fun g t' kp => ?_))
  have eB' := kp B _ nW eB
  show wpAny _ _ (updateSeq B (fun _ => #[]) >>= _) _ _ _
  refine wpAny_bind ?_
  refine wpAny_updateSeq eB' rfl (wpAny_bind (wpAny_letGo (wpAny_pure ?_)))
  exact fin best _ t' (by rw [← last]; exact ab) fun b o h1 h2 e => (Heap.get?_update_other _ _ (Ne.symm h2)).trans (kp b o h1 e)
 | succ k ih =>
  intro j s best c e0 e1 sx ab eB fin
  have more : j + 1 < len := by omega
  refine codeAny_builtin F.entry_min_loop ?_
  rw [Around.under_plainId F.plain_min_loop _]
  show wpAny _ _ (seqItems? (.ref B) >>= _) _ _ _
  refine wpAny_bind (wpAny_seqItems eB rfl ?_)
  show wpAny _ _ (tryCatch (pyNext (.ref J)) _ >>= _) _ _ _
  refine wpAny_bind (wpAny_tryCatch (Z.item (j + 1) s _ _ more sx fun v g t' av sx' kp => ?_))
  have eB' := kp B _ nW eB
  show wpAny _ _ (tryCatch (holding [v, v] (richCompare .Lt v best >>= _)) _ >>= _) _ _ _
  refine wpAny_bind (wpAny_tryCatch (wpAny_holding (wpAny_bind (cm (j + 1) (argBest bt j) v best _ _ _ av ab ?_))))
  refine wpAny_bind (wpAny_holding (wpAny_truthy_bool ?_))
  refine wpAny_bind (wpAny_letGo (wpAny_pure ?_))
  cases hb : bt (j + 1) (argBest bt j) with
  | true =>
   simp only [if_true]
   refine wpAny_bind ?_
   refine wpAny_updateSeq eB' rfl (wpAny_bind (wpAny_letGo ?_))
   rw [nm]
   refine wpAny_pure ⟨plainId_quiet F.plain_min_loop _, ih (j + 1) _ v _ (by omega) more (Z.frame _ _ _ sx' fun b h1 o e => ?_) (by simp only [argBest, hb, if_true]; exact av) (Heap.get?_update_self _ eB' rfl)
    fun v' g' t'' av' kp' => ?_⟩
   · exact (Heap.get?_update_other _ _ (fun z : B = b => nB (by rw [z]; exact h1))).trans e
   · exact fin v' g' t'' av' fun b o h1 h2 e => kp' b o h1 h2 ((Heap.get?_update_other _ _ (Ne.symm h2)).trans (kp b o h1 e))
  | false =>
   simp only [Bool.false_eq_true, if_false]
   refine wpAny_bind (wpAny_letGo ?_)
   rw [nm]
   refine wpAny_pure ⟨plainId_quiet F.plain_min_loop _, ih (j + 1) _ best c (by omega) more sx' (by simp only [argBest, hb, Bool.false_eq_true, if_false]; exact ab) eB' fun v' g' t'' av' kp' => ?_⟩
   exact fin v' g' t'' av' fun b o h1 h2 e => kp' b o h1 h2 (kp b o h1 e)
theorem zhR (d : Value) (Z : Walks prog w A.in1 J fo wo len At Sx) (bt : Nat → Nat → Bool) (cm : CmpOf prog w A.in1 .Lt At bt) (B : Addr) (nB : B ∉ fo) {s : Shared} {c : Nat} (sx : Sx 0 s.heap)
 (eB : s.heap.get? B = some { cls := .type "list", dict := none, data := .seq #[] c, slots := #[] })
 (fin : ∀ v g t', (len = 0 → v = d) → (0 < len → At (argBest bt (len - 1)) v) → (∀ b o, b ∉ wo → b ≠ B → s.heap.get? b = some o → g.get? b = some o) → R (.ok (.ret v)) { s with heap := g, toks := t' }) :
 codeAny (model prog w) A (.builtin "min.loop" ⟨[.ref J, .none, .ref B], [("default", d)]⟩) R s := by
 have nW : B ∉ wo := fun z => nB (Z.sub _ z)
 have nm : (toString "min" ++ toString ".loop" : String) = "min.loop" := by decide
 refine codeAny_builtin F.entry_min_loop ?_
 rw [Around.under_plainId F.plain_min_loop _]
 show wpAny _ _ (seqItems? (.ref B) >>= _) _ _ _
 refine wpAny_bind (wpAny_seqItems eB rfl ?_)
 show wpAny _ _ (tryCatch (pyNext (.ref J)) _ >>= _) _ _ _
 by_cases hl : len = 0
 · refine wpAny_bind (wpAny_tryCatch (Z.done s _ _ (hl ▸ sx) fun g t' kp => ?_))
   refine wpAny_bind (wpAny_rule (wpAny_pure ?_))
   exact fin d g t' (fun _ => rfl) (fun z => by omega) fun b o h1 _ e => kp b o h1 e
 · refine wpAny_bind (wpAny_tryCatch (Z.item 0 s _ _ (by omega) sx fun v g t' av sx' kp => ?_))
   have eB' := kp B _ nW eB
   show wpAny _ _ (updateSeq B (fun _ => #[v, v]) >>= _) _ _ _
   refine wpAny_bind ?_
   refine wpAny_updateSeq eB' rfl ?_
   rw [nm]
   refine wpAny_pure ⟨plainId_quiet F.plain_min_loop _, ziJ [("default", d)] Z bt cm B nB _ 0 _ v _ rfl (by omega) (Z.frame _ _ _ sx' fun b h1 o e => ?_) av (Heap.get?_update_self _ eB' rfl) fun v' g' t'' av' kp' => ?_⟩
   · exact (Heap.get?_update_other _ _ (fun z : B = b => nB (by rw [z]; exact h1))).trans e
   · exact fin v' g' t'' (fun z => by omega) (fun _ => av') fun b o h1 h2 e => kp' b o h1 h2 ((Heap.get?_update_other _ _ (Ne.symm h2)).trans (kp b o h1 e))
theorem zhS (a d : Value) : argsOk "min" ⟨[a], [("default", d)]⟩ := by unfold argsOk; kernel_rfl
theorem zgP {E : Value → Shared → Prop} {s : Shared} {a : Addr} {its : Array Value} {d : Value} {Q : Value → Shared → Prop} (hh : A.handled = none) (hl : s.heap.IsList a its) (bt : Nat → Nat → Bool)
 (cm : CmpOf prog w A.in1 .Lt (fun i v => its[i]? = some v) bt)
 (fin : ∀ v g t', (its.size = 0 → v = d) → (0 < its.size → its[argBest bt (its.size - 1)]? = some v) → (∀ b o, s.heap.get? b = some o → g.get? b = some o) → Q v { s with heap := g, toks := t' }) :
 wpAny (model prog w) A (call (.builtin "min") [.ref a] [("default", d)]) Q E s := by
 have nm : (toString "min" ++ toString ".loop" : String) = "min.loop" := by decide
 refine wpAny_call (codeAny_call_builtin F.plain_min F.entry_min ?_)
 have body : wpAny (model prog w) A.in1 (Builtin.«min» ⟨[.ref a], [("default", d)]⟩) (fun fin s' => match fin with
  | .done f => (match (Except.ok f : Result) with | .ok (.ret v) => Q v s' | .ok _ => False | .error e => E e s')
  | .again c' => c'.quiet = true ∧ codeAny (model prog w) A c' (fun r s' => match r with | .ok (.ret v) => Q v s' | .ok _ => False | .error e => E e s') s') E s := by
  show wpAny _ A.in1 (Builtin.Builtins.bindParams "min" ["key", "default"] 0 ⟨[], [("default", d)]⟩ >>= _) _ _ s
  refine wpAny_bind (wpAny_of_eq (show Builtin.Builtins.bindParams "min" ["key", "default"] 0 ⟨[], [("default", d)]⟩ = pure [none, some d] from rfl) ?_)
  refine wpAny_bind (wpAny_pure ?_)
  refine wpAny_bind (wpAny_pyIter_list hl ?_)
  refine wpAny_bind (wpAny_newObj_type ?_)
  rw [nm]
  obtain ⟨o, ho, _⟩ := id hl
  have lt := Heap.lt_size ho
  have sz : (s.heap.push { cls := .type "list_iterator", data := .fields #[.ref a, .int 0 0] }).objs.size = s.heap.objs.size + 1 := Heap.size_push _ _
  have kp : ∀ b o', s.heap.get? b = some o' → ((s.heap.push { cls := .type "list_iterator", data := .fields #[.ref a, .int 0 0] }).push { cls := .type "list", dict := none, data := .seq ([] : List Value).toArray }).get? b = some o' :=
   fun b o' e => Heap.get?_push_of_some _ (Heap.get?_push_of_some _ e)
  refine wpAny_pure ⟨plainId_quiet F.plain_min_loop _, zhR d (Walks.list (A := A.in1) hh s.heap.objs.size a (Nat.ne_of_lt lt) its) bt cm _ ?_
   ⟨⟨_, Heap.get?_push_of_some _ (Heap.get?_push_size _ rfl), rfl, rfl⟩, hl.at fun o' e => kp a o' e⟩ (Heap.get?_push_size _ rfl) fun v g t' h1 h2 h3 => ?_⟩
  · show (s.heap.push _).objs.size ∉ [s.heap.objs.size, a]
    rw [sz]
    intro z
    rcases List.mem_cons.mp z with z | z
    · exact Nat.succ_ne_self _ z
    · have z' := List.mem_singleton.mp z
      rw [← z'] at lt
      exact absurd lt (Nat.not_lt.mpr (Nat.le_succ _))
  · refine fin v g t' h1 h2 fun b o' e => h3 b o' ?_ ?_ (kp b o' e)
    · intro z
      exact absurd (List.mem_singleton.mp z) (Nat.ne_of_lt (Heap.lt_size e))
    · have := Heap.lt_size e
      show b ≠ (s.heap.push _).objs.size
      rw [sz]
      exact Nat.ne_of_lt (Nat.lt_succ_of_lt this)
 simp only [checkBuiltinCall, F.kind_min]
 cases hsig : Manifest.signature? "min" with
 | none => exact wpAny_pure body
 | some sig =>
  have ha' : Bind.checkArgs "min" sig ⟨[.ref a], [("default", d)]⟩ = pure () := by
   have := zhS (.ref a) d
   simpa only [argsOk, hsig] using this
  simp only [ha']
  exact wpAny_pure body
end
def zeo (lt : Int → Int → Bool) : Int → List Int → Int
 | b, [] => b
 | b, x :: r => zeo lt (if lt x b then x else b) r
theorem zcI (lt : Int → Int → Bool) (ns : List Int) (d0 : Int) : ∀ k, k < ns.length →
 ns.getD (argBest (fun i j => lt (ns.getD i d0) (ns.getD j d0)) k) d0 = zeo lt (ns.getD 0 d0) ((ns.drop 1).take k) ∧ argBest (fun i j => lt (ns.getD i d0) (ns.getD j d0)) k < ns.length := by
 have snoc : ∀ (l : List Int) (b x : Int), zeo lt b (l ++ [x]) = if lt x (zeo lt b l) then x else zeo lt b l := by
  intro l
  induction l with
  | nil => intro b x; rfl
  | cons y r ih => intro b x; exact ih _ x
 intro k
 induction k with
 | zero => intro h; exact ⟨rfl, h⟩
 | succ k ih =>
  intro h
  obtain ⟨i1, i2⟩ := ih (by omega)
  have e : (ns.drop 1).take (k + 1) = (ns.drop 1).take k ++ [ns.getD (k + 1) d0] := by
   rw [List.take_succ, List.getElem?_drop, List.getElem?_eq_getElem (by omega)]
   have : (1 + k) = k + 1 := by omega
   simp [this, List.getD_eq_getElem?_getD, List.getElem?_eq_getElem h]
  rw [e, snoc, ← i1]
  show ns.getD (if lt (ns.getD (k + 1) d0) (ns.getD (argBest _ k) d0) = true then k + 1 else argBest _ k) d0 = _ ∧ (if lt (ns.getD (k + 1) d0) (ns.getD (argBest _ k) d0) = true then k + 1 else argBest _ k) < _
  by_cases hb : lt (ns.getD (k + 1) d0) (ns.getD (argBest (fun i j => lt (ns.getD i d0) (ns.getD j d0)) k) d0) = true
  · rw [if_pos hb, if_pos hb]; exact ⟨rfl, h⟩
  · rw [if_neg hb, if_neg hb]; exact ⟨rfl, i2⟩
def zkb (lt : Int → Int → Bool) (ns : List Int) (d : V) : V := match ns with
 | [] => d
 | x :: r => .int (zeo lt x r)
theorem zbd {ns : List Int} {its : List Value} (r : Vals (ns.map V.int) its) {i : Nat} {v : Value} (h : its.toArray[i]? = some v) : ∃ t, v = Value.int (ns.getD i 0) t := by
 have hi : its[i]? = some v := by simpa using h
 have hl : i < its.length := (List.getElem?_eq_some_iff.mp hi).1
 have ll := r.length
 rw [List.length_map] at ll
 have e : (ns.map V.int)[i]? = some (.int (ns.getD i 0)) := by
  rw [List.getElem?_map, List.getElem?_eq_getElem (by omega), List.getD_eq_getElem?_getD, List.getElem?_eq_getElem (by omega)]
  rfl
 obtain ⟨u, h1, h2⟩ := Vals.get r e
 rw [hi] at h1
 cases h1
 exact h2
section
variable {X : Cx}
def zjz (X : Cx) (f : Value) (ks : List Str) (r : List V → List V → Hp → VK → Prop) : Prop :=
 ∀ (pins : List (Addr × Obj)) (s : Shared) (σ : St) (H : Hp) (xs zs : List V) (us ws : List Value) (Q : VK), Inv X pins σ H s → Vals xs us → Vals zs ws → r xs zs H Q → wpAny (model X.prog X.w) X.A (call f us (ks.zip ws)) (EP X pins σ Q) X.xe s
def tCBK (r : List V → List V → Hp → VK → Prop) (t tk : TA) : TE := fun σ H Q => t σ H fun vs H1 => tk σ H1 fun zs H2 => r vs zs H2 Q
theorem zfy {x : Str} {id : String} {ks : List Str} {r : List V → List V → Hp → VK → Prop} {e : Expr} {es : List Expr} {kws : List Keyword} {t tk : TA} {p pos : Pos} (hc : zjz X (.builtin id) ks r) (hg : Gl X x) (hm : X.mg x = none) (hv : bootBuiltins x = some (.builtin id)) (ha : PA X (e :: es) t) (hkw : PK X kws tk)
 (hks : (backToKw pos (keywordEach kws X.env)).filterMap (·.1) = ks := by rfl) (hn : x ≠ "__name__" := by decide) (hdb : (x == ("__debug__" : Str)) = false := by decide)
 (he : backTo pos (starEach (e :: es) X.env) = (false, eval e X.env) :: backTo pos (starEach es X.env) := by rfl) (hpl : (backTo pos (starEach (e :: es) X.env)).any (·.1) = false := by rfl)
 (hall : (backToKw pos (keywordEach kws X.env)).all (·.1.isSome) = true := by rfl) (hkn : (backToKw pos (keywordEach kws X.env)).any (·.1.isNone) = false := by rfl) :
 PE X (.Call (.Name x p) (e :: es) kws pos) (tCBK r t tk) := by
 intro pins s σ H Q I h
 refine wpAny_Call_Name_kw (zc6 I hg hm hv ?_ hn hdb)
 refine callWith_kw (thn (ha pos pins s σ H _ I h) fun us s1 ⟨vs, H1, I1, r1, q1⟩ => ?_) he hpl hall hkn
 refine thn (hkw pos pins s1 σ H1 _ I1 q1) fun ws s2 ⟨zs, H2, I2, r2, q2⟩ => ?_
 rw [hks]
 exact hc pins s2 σ H2 vs zs us ws Q I2 r1 r2 q2
theorem zjq (hc : X.calm = true) : zjz X (.builtin "max") ["default"] (fun xs zs H Q => ∃ a ns d, xs = [.ref a] ∧ zs = [d] ∧ SqL X.K H a (ns.map V.int) ∧ Q (zkb (fun i j => decide (j < i)) ns d) H) := by
 intro pins s σ H xs zs us ws Q I r1 r2 h
 obtain ⟨a, ns, d, rfl, rfl, hq, q⟩ := h
 obtain ⟨u, rfl, ru⟩ := zcR r1
 obtain ⟨z, rfl, rz⟩ := zcR r2
 cases ru
 obtain ⟨its, rv, p, _⟩ := I.list hq
 have ll := rv.length
 rw [List.length_map] at ll
 refine zgQ (I.ok.hd hc) p.isList (fun i j => decide (ns.getD j 0 < ns.getD i 0)) (fun i j vi vj s' Q' E' hi hj q' => ?_) fun v g t' h1 h2 h3 => ?_
 · obtain ⟨t1, rfl⟩ := zbd rv hi
   obtain ⟨t2, rfl⟩ := zbd rv hj
   exact gt_int q'
 · refine ⟨_, H, I.kept h3, ?_, q⟩
   cases ns with
   | nil =>
    have e : its.toArray.size = 0 := by simp; simpa using ll.symm
    rw [h1 e]
    exact rz
   | cons x rr =>
    simp only [List.length_cons] at ll
    have e : 0 < its.toArray.size := by simp; omega
    have hv := h2 e
    obtain ⟨t, rfl⟩ := zbd rv hv
    have ee : its.toArray.size - 1 = rr.length := by simp; omega
    rw [ee]
    have := (zcI (fun i j => decide (j < i)) (x :: rr) 0 rr.length (by simp)).1
    have e2 : ((x :: rr).drop 1).take rr.length = rr := by simp
    rw [e2] at this
    refine ⟨t, ?_⟩
    rw [this]
    rfl
theorem zjo (hc : X.calm = true) : zjz X (.builtin "min") ["default"] (fun xs zs H Q => ∃ a ns d, xs = [.ref a] ∧ zs = [d] ∧ SqL X.K H a (ns.map V.int) ∧ Q (zkb (fun i j => decide (i < j)) ns d) H) := by
 intro pins s σ H xs zs us ws Q I r1 r2 h
 obtain ⟨a, ns, d, rfl, rfl, hq, q⟩ := h
 obtain ⟨u, rfl, ru⟩ := zcR r1
 obtain ⟨z, rfl, rz⟩ := zcR r2
 cases ru
 obtain ⟨its, rv, p, _⟩ := I.list hq
 have ll := rv.length
 rw [List.length_map] at ll
 refine zgP (I.ok.hd hc) p.isList (fun i j => decide (ns.getD i 0 < ns.getD j 0)) (fun i j vi vj s' Q' E' hi hj q' => ?_) fun v g t' h1 h2 h3 => ?_
 · obtain ⟨t1, rfl⟩ := zbd rv hi
   obtain ⟨t2, rfl⟩ := zbd rv hj
   exact lt_int q'
 · refine ⟨_, H, I.kept h3, ?_, q⟩
   cases ns with
   | nil =>
    have e : its.toArray.size = 0 := by simp; simpa using ll.symm
    rw [h1 e]
    exact rz
   | cons x rr =>
    simp only [List.length_cons] at ll
    have e : 0 < its.toArray.size := by simp; omega
    have hv := h2 e
    obtain ⟨t, rfl⟩ := zbd rv hv
    have ee : its.toArray.size - 1 = rr.length := by simp; omega
    rw [ee]
    have := (zcI (fun i j => decide (i < j)) (x :: rr) 0 rr.length (by simp)).1
    have e2 : ((x :: rr).drop 1).take rr.length = rr := by simp
    rw [e2] at this
    refine ⟨t, ?_⟩
    rw [this]
    rfl
end
section
variable {X : Cx} {pins : List (Addr × Obj)} {σ : St} {H : Hp} {s : Shared}
theorem zdD (I : Inv X pins σ H s) (A : Around) (d e : PD) (v w : V) (u y : Value) (h : Rep X.K H d v) (h' : Rep X.K H e w) (r : RelV v u) (r' : RelV w y) (z : A.units + zbW d < cLine) : SeqAt.RcAt A s u y (pyEq d e) := by
 cases d with
 | non =>
  rw [Rep] at h; subst h; cases r
  cases e with
  | non =>
   rw [Rep] at h'
   subst h'; cases r'
   rw [pyEq]; exact SeqAt.RcAt.none_none
  | bl b =>
   rw [Rep] at h'
   subst h'; cases r'
   exact SeqAt.RcAt.none_bool b
  | int b =>
   rw [Rep] at h'
   subst h'; obtain ⟨t, rfl⟩ := r'
   exact SeqAt.RcAt.none_int b t
  | str b =>
   rw [Rep] at h'
   subst h'; obtain ⟨t, rfl⟩ := r'
   exact SeqAt.RcAt.none_str b t
  | lst es =>
   rw [Rep] at h'
   obtain ⟨b, ys, rfl, q', qs'⟩ := h'; cases r'
   obtain ⟨its', rv', p', _⟩ := I.list q'
   exact SeqAt.RcAt.none_list p'.isList (by omega)
  | tup es =>
   rw [Rep] at h'
   obtain ⟨b, ys, rfl, q', qs'⟩ := h'; cases r'
   obtain ⟨its', rv', p', _⟩ := I.tuple q'
   exact SeqAt.RcAt.none_tuple p' (by omega)
 | bl c =>
  rw [Rep] at h; subst h; cases r
  cases e with
  | non =>
   rw [Rep] at h'
   subst h'; cases r'
   exact SeqAt.RcAt.bool_none c
  | bl b =>
   rw [Rep] at h'
   subst h'; cases r'
   exact SeqAt.RcAt.bool_bool c b
  | int b =>
   rw [Rep] at h'
   subst h'; obtain ⟨t, rfl⟩ := r'
   exact SeqAt.RcAt.bool_int c b t
  | str b =>
   rw [Rep] at h'
   subst h'; obtain ⟨t, rfl⟩ := r'
   exact SeqAt.RcAt.bool_str c b t
  | lst es =>
   rw [Rep] at h'
   obtain ⟨b, ys, rfl, q', qs'⟩ := h'; cases r'
   obtain ⟨its', rv', p', _⟩ := I.list q'
   exact SeqAt.RcAt.bool_list c p'.isList (by omega)
  | tup es =>
   rw [Rep] at h'
   obtain ⟨b, ys, rfl, q', qs'⟩ := h'; cases r'
   obtain ⟨its', rv', p', _⟩ := I.tuple q'
   exact SeqAt.RcAt.bool_tuple c p' (by omega)
 | int c =>
  rw [Rep] at h; subst h; obtain ⟨tc, rfl⟩ := r
  cases e with
  | non =>
   rw [Rep] at h'
   subst h'; cases r'
   exact SeqAt.RcAt.int_none c tc
  | bl b =>
   rw [Rep] at h'
   subst h'; cases r'
   exact SeqAt.RcAt.int_bool c tc b
  | int b =>
   rw [Rep] at h'
   subst h'; obtain ⟨t, rfl⟩ := r'
   exact SeqAt.RcAt.int_int c tc b t
  | str b =>
   rw [Rep] at h'
   subst h'; obtain ⟨t, rfl⟩ := r'
   exact SeqAt.RcAt.int_str c tc b t
  | lst es =>
   rw [Rep] at h'
   obtain ⟨b, ys, rfl, q', qs'⟩ := h'; cases r'
   obtain ⟨its', rv', p', _⟩ := I.list q'
   exact SeqAt.RcAt.int_list c tc p'.isList (by omega)
  | tup es =>
   rw [Rep] at h'
   obtain ⟨b, ys, rfl, q', qs'⟩ := h'; cases r'
   obtain ⟨its', rv', p', _⟩ := I.tuple q'
   exact SeqAt.RcAt.int_tuple c tc p' (by omega)
 | str c =>
  rw [Rep] at h; subst h; obtain ⟨tc, rfl⟩ := r
  cases e with
  | non =>
   rw [Rep] at h'
   subst h'; cases r'
   exact SeqAt.RcAt.str_none c tc
  | bl b =>
   rw [Rep] at h'
   subst h'; cases r'
   exact SeqAt.RcAt.str_bool c tc b
  | int b =>
   rw [Rep] at h'
   subst h'; obtain ⟨t, rfl⟩ := r'
   exact SeqAt.RcAt.str_int c tc b t
  | str b =>
   rw [Rep] at h'
   subst h'; obtain ⟨t, rfl⟩ := r'
   exact SeqAt.RcAt.str_str c tc b t
  | lst es =>
   rw [Rep] at h'
   obtain ⟨b, ys, rfl, q', qs'⟩ := h'; cases r'
   obtain ⟨its', rv', p', _⟩ := I.list q'
   exact SeqAt.RcAt.str_list c tc p'.isList (by omega)
  | tup es =>
   rw [Rep] at h'
   obtain ⟨b, ys, rfl, q', qs'⟩ := h'; cases r'
   obtain ⟨its', rv', p', _⟩ := I.tuple q'
   exact SeqAt.RcAt.str_tuple c tc p' (by omega)
 | lst ds =>
  rw [Rep] at h; obtain ⟨a, xs, rfl, q, qs⟩ := h; cases r
  obtain ⟨its, rv, p, _⟩ := I.list q
  cases e with
  | non =>
   rw [Rep] at h'
   subst h'; cases r'
   exact SeqAt.RcAt.list_none p.isList (by omega)
  | bl b =>
   rw [Rep] at h'
   subst h'; cases r'
   exact SeqAt.RcAt.list_bool b p.isList (by omega)
  | int b =>
   rw [Rep] at h'
   subst h'; obtain ⟨t, rfl⟩ := r'
   exact SeqAt.RcAt.list_int b t p.isList (by omega)
  | str b =>
   rw [Rep] at h'
   subst h'; obtain ⟨t, rfl⟩ := r'
   exact SeqAt.RcAt.list_str b t p.isList (by omega)
  | lst es =>
   rw [Rep] at h'
   obtain ⟨b, ys, rfl, q', qs'⟩ := h'; cases r'
   obtain ⟨its', rv', p', _⟩ := I.list q'
   rw [pyEq]
   rw [zbW] at z
   have l1 := qs.length
   have l2 := qs'.length
   have l3 := rv.length
   have l4 := rv'.length
   by_cases hl : ds.length = es.length
   · rw [← za0 ds es hl]
     have := SeqAt.RcAt.lists (e := eqJ ds es) p.isList p'.isList (by simp; omega) (by omega) (fun j h1 h2 => ?_) (A := A)
     · simp only [List.size_toArray] at this
       rw [show ds.length = its.length by omega]
       exact this
     · have := zbA I A.in1 ds es xs ys its its' qs qs' rv rv' (by rw [Around.in1_units]; omega) j (by simpa using h1) (by simpa using h2)
       simpa using this
   · rw [zbk hl]
     exact SeqAt.RcAt.lists_lengths p.isList p'.isList (by simp; omega) (by omega)
  | tup es =>
   rw [Rep] at h'
   obtain ⟨b, ys, rfl, q', qs'⟩ := h'; cases r'
   obtain ⟨its', rv', p', _⟩ := I.tuple q'
   exact SeqAt.RcAt.list_tuple p.isList p' (by omega)
 | tup ds =>
  rw [Rep] at h; obtain ⟨a, xs, rfl, q, qs⟩ := h; cases r
  obtain ⟨its, rv, p, _⟩ := I.tuple q
  cases e with
  | non =>
   rw [Rep] at h'
   subst h'; cases r'
   exact SeqAt.RcAt.tuple_none p (by omega)
  | bl b =>
   rw [Rep] at h'
   subst h'; cases r'
   exact SeqAt.RcAt.tuple_bool b p (by omega)
  | int b =>
   rw [Rep] at h'
   subst h'; obtain ⟨t, rfl⟩ := r'
   exact SeqAt.RcAt.tuple_int b t p (by omega)
  | str b =>
   rw [Rep] at h'
   subst h'; obtain ⟨t, rfl⟩ := r'
   exact SeqAt.RcAt.tuple_str b t p (by omega)
  | lst es =>
   rw [Rep] at h'
   obtain ⟨b, ys, rfl, q', qs'⟩ := h'; cases r'
   obtain ⟨its', rv', p', _⟩ := I.list q'
   exact SeqAt.RcAt.tuple_list p p'.isList (by omega)
  | tup es =>
   rw [Rep] at h'
   obtain ⟨b, ys, rfl, q', qs'⟩ := h'; cases r'
   obtain ⟨its', rv', p', _⟩ := I.tuple q'
   rw [pyEq]
   rw [zbW] at z
   have l1 := qs.length
   have l2 := qs'.length
   have l3 := rv.length
   have l4 := rv'.length
   have := SeqAt.RcAt.tuples (e := eqJ ds es) p p' (by omega) (fun j h1 h2 => ?_) (A := A)
   · simp only [List.size_toArray] at this
     by_cases hl : ds.length = es.length
     · rw [← za0 ds es hl]
       rw [show min its.length its'.length = ds.length by omega, show (its.length == its'.length) = true by simp; omega, Bool.and_true] at this
       exact this
     · rw [zbk hl]
       rw [show (its.length == its'.length) = false by simp; omega, Bool.and_false] at this
       exact this
   · have := zbA I A.in1 ds es xs ys its its' qs qs' rv rv' (by rw [Around.in1_units]; omega) j (by simpa using h1) (by simpa using h2)
     simpa using this
theorem zhF (I : Inv X pins σ H s) (A : Around) (d e : PD) (v w : V) (u y : Value) (h : Rep X.K H d v) (h' : Rep X.K H e w) (r : RelV v u) (r' : RelV w y) (z : A.units + zbW d < cLine) : SeqAt.RcNeAt A s u y (!pyEq d e) := by
 cases d with
 | non =>
  rw [Rep] at h; subst h; cases r
  cases e with
  | non =>
   rw [Rep] at h'
   subst h'; cases r'
   rw [pyEq]; exact SeqAt.RcNeAt.none_none
  | bl b =>
   rw [Rep] at h'
   subst h'; cases r'
   exact SeqAt.RcNeAt.none_bool b
  | int b =>
   rw [Rep] at h'
   subst h'; obtain ⟨t, rfl⟩ := r'
   exact SeqAt.RcNeAt.none_int b t
  | str b =>
   rw [Rep] at h'
   subst h'; obtain ⟨t, rfl⟩ := r'
   exact SeqAt.RcNeAt.none_str b t
  | lst es =>
   rw [Rep] at h'
   obtain ⟨b, ys, rfl, q', qs'⟩ := h'; cases r'
   obtain ⟨its', rv', p', _⟩ := I.list q'
   exact SeqAt.RcNeAt.none_list p'.isList (by omega)
  | tup es =>
   rw [Rep] at h'
   obtain ⟨b, ys, rfl, q', qs'⟩ := h'; cases r'
   obtain ⟨its', rv', p', _⟩ := I.tuple q'
   exact SeqAt.RcNeAt.none_tuple p' (by omega)
 | bl c =>
  rw [Rep] at h; subst h; cases r
  cases e with
  | non =>
   rw [Rep] at h'
   subst h'; cases r'
   exact SeqAt.RcNeAt.bool_none c
  | bl b =>
   rw [Rep] at h'
   subst h'; cases r'
   exact SeqAt.RcNeAt.bool_bool c b
  | int b =>
   rw [Rep] at h'
   subst h'; obtain ⟨t, rfl⟩ := r'
   exact SeqAt.RcNeAt.bool_int c b t
  | str b =>
   rw [Rep] at h'
   subst h'; obtain ⟨t, rfl⟩ := r'
   exact SeqAt.RcNeAt.bool_str c b t
  | lst es =>
   rw [Rep] at h'
   obtain ⟨b, ys, rfl, q', qs'⟩ := h'; cases r'
   obtain ⟨its', rv', p', _⟩ := I.list q'
   exact SeqAt.RcNeAt.bool_list c p'.isList (by omega)
  | tup es =>
   rw [Rep] at h'
   obtain ⟨b, ys, rfl, q', qs'⟩ := h'; cases r'
   obtain ⟨its', rv', p', _⟩ := I.tuple q'
   exact SeqAt.RcNeAt.bool_tuple c p' (by omega)
 | int c =>
  rw [Rep] at h; subst h; obtain ⟨tc, rfl⟩ := r
  cases e with
  | non =>
   rw [Rep] at h'
   subst h'; cases r'
   exact SeqAt.RcNeAt.int_none c tc
  | bl b =>
   rw [Rep] at h'
   subst h'; cases r'
   exact SeqAt.RcNeAt.int_bool c tc b
  | int b =>
   rw [Rep] at h'
   subst h'; obtain ⟨t, rfl⟩ := r'
   exact SeqAt.RcNeAt.int_int c tc b t
  | str b =>
   rw [Rep] at h'
   subst h'; obtain ⟨t, rfl⟩ := r'
   exact SeqAt.RcNeAt.int_str c tc b t
  | lst es =>
   rw [Rep] at h'
   obtain ⟨b, ys, rfl, q', qs'⟩ := h'; cases r'
   obtain ⟨its', rv', p', _⟩ := I.list q'
   exact SeqAt.RcNeAt.int_list c tc p'.isList (by omega)
  | tup es =>
   rw [Rep] at h'
   obtain ⟨b, ys, rfl, q', qs'⟩ := h'; cases r'
   obtain ⟨its', rv', p', _⟩ := I.tuple q'
   exact SeqAt.RcNeAt.int_tuple c tc p' (by omega)
 | str c =>
  rw [Rep] at h; subst h; obtain ⟨tc, rfl⟩ := r
  cases e with
  | non =>
   rw [Rep] at h'
   subst h'; cases r'
   exact SeqAt.RcNeAt.str_none c tc
  | bl b =>
   rw [Rep] at h'
   subst h'; cases r'
   exact SeqAt.RcNeAt.str_bool c tc b
  | int b =>
   rw [Rep] at h'
   subst h'; obtain ⟨t, rfl⟩ := r'
   exact SeqAt.RcNeAt.str_int c tc b t
  | str b =>
   rw [Rep] at h'
   subst h'; obtain ⟨t, rfl⟩ := r'
   exact SeqAt.RcNeAt.str_str c tc b t
  | lst es =>
   rw [Rep] at h'
   obtain ⟨b, ys, rfl, q', qs'⟩ := h'; cases r'
   obtain ⟨its', rv', p', _⟩ := I.list q'
   exact SeqAt.RcNeAt.str_list c tc p'.isList (by omega)
  | tup es =>
   rw [Rep] at h'
   obtain ⟨b, ys, rfl, q', qs'⟩ := h'; cases r'
   obtain ⟨its', rv', p', _⟩ := I.tuple q'
   exact SeqAt.RcNeAt.str_tuple c tc p' (by omega)
 | lst ds =>
  rw [Rep] at h; obtain ⟨a, xs, rfl, q, qs⟩ := h; cases r
  obtain ⟨its, rv, p, _⟩ := I.list q
  cases e with
  | non =>
   rw [Rep] at h'
   subst h'; cases r'
   exact SeqAt.RcNeAt.list_none p.isList (by omega)
  | bl b =>
   rw [Rep] at h'
   subst h'; cases r'
   exact SeqAt.RcNeAt.list_bool b p.isList (by omega)
  | int b =>
   rw [Rep] at h'
   subst h'; obtain ⟨t, rfl⟩ := r'
   exact SeqAt.RcNeAt.list_int b t p.isList (by omega)
  | str b =>
   rw [Rep] at h'
   subst h'; obtain ⟨t, rfl⟩ := r'
   exact SeqAt.RcNeAt.list_str b t p.isList (by omega)
  | lst es =>
   rw [Rep] at h'
   obtain ⟨b, ys, rfl, q', qs'⟩ := h'; cases r'
   obtain ⟨its', rv', p', _⟩ := I.list q'
   rw [pyEq]
   rw [zbW] at z
   have l1 := qs.length
   have l2 := qs'.length
   have l3 := rv.length
   have l4 := rv'.length
   by_cases hl : ds.length = es.length
   · rw [← za0 ds es hl]
     have := SeqAt.RcNeAt.lists (e := eqJ ds es) p.isList p'.isList (by simp; omega) (by omega) (fun j h1 h2 => ?_) (A := A)
     · simp only [List.size_toArray] at this
       rw [show ds.length = its.length by omega]
       exact this
     · have := zbA I A.in1 ds es xs ys its its' qs qs' rv rv' (by rw [Around.in1_units]; omega) j (by simpa using h1) (by simpa using h2)
       simpa using this
   · rw [zbk hl]
     exact SeqAt.RcNeAt.lists_lengths p.isList p'.isList (by simp; omega) (by omega)
  | tup es =>
   rw [Rep] at h'
   obtain ⟨b, ys, rfl, q', qs'⟩ := h'; cases r'
   obtain ⟨its', rv', p', _⟩ := I.tuple q'
   exact SeqAt.RcNeAt.list_tuple p.isList p' (by omega)
 | tup ds =>
  rw [Rep] at h; obtain ⟨a, xs, rfl, q, qs⟩ := h; cases r
  obtain ⟨its, rv, p, _⟩ := I.tuple q
  cases e with
  | non =>
   rw [Rep] at h'
   subst h'; cases r'
   exact SeqAt.RcNeAt.tuple_none p (by omega)
  | bl b =>
   rw [Rep] at h'
   subst h'; cases r'
   exact SeqAt.RcNeAt.tuple_bool b p (by omega)
  | int b =>
   rw [Rep] at h'
   subst h'; obtain ⟨t, rfl⟩ := r'
   exact SeqAt.RcNeAt.tuple_int b t p (by omega)
  | str b =>
   rw [Rep] at h'
   subst h'; obtain ⟨t, rfl⟩ := r'
   exact SeqAt.RcNeAt.tuple_str b t p (by omega)
  | lst es =>
   rw [Rep] at h'
   obtain ⟨b, ys, rfl, q', qs'⟩ := h'; cases r'
   obtain ⟨its', rv', p', _⟩ := I.list q'
   exact SeqAt.RcNeAt.tuple_list p p'.isList (by omega)
  | tup es =>
   rw [Rep] at h'
   obtain ⟨b, ys, rfl, q', qs'⟩ := h'; cases r'
   obtain ⟨its', rv', p', _⟩ := I.tuple q'
   rw [pyEq]
   rw [zbW] at z
   have l1 := qs.length
   have l2 := qs'.length
   have l3 := rv.length
   have l4 := rv'.length
   have := SeqAt.RcNeAt.tuples (e := eqJ ds es) p p' (by omega) (fun j h1 h2 => ?_) (A := A)
   · simp only [List.size_toArray] at this
     by_cases hl : ds.length = es.length
     · rw [← za0 ds es hl]
       rw [show min its.length its'.length = ds.length by omega, show (its.length == its'.length) = true by simp; omega, Bool.and_true] at this
       exact this
     · rw [zbk hl]
       rw [show (its.length == its'.length) = false by simp; omega, Bool.and_false] at this
       exact this
   · have := zbA I A.in1 ds es xs ys its its' qs qs' rv rv' (by rw [Around.in1_units]; omega) j (by simpa using h1) (by simpa using h2)
     simpa using this
end
def zga (X : Cx) : Prop := X.A.units + 60 < cLine
section
variable {X : Cx}
def rNeD (K : PySem.W.Frag) : R2 := fun x y H Q => ∃ d e, Rep K H d x ∧ Rep K H e y ∧ zbW d < 60 ∧ Q (.bl (!pyEq d e)) H
theorem zkl (hr : zga X) : OpR X (compareOp .NotEq) (rNeD X.K) := by
 intro pins s σ H x y v u Q I rx ry h
 obtain ⟨d, e, h1, h2, h3, q⟩ := h
 unfold zga at hr
 exact zhF I X.A d e x y v u h1 h2 rx ry (by omega) X.prog X.w _ _ ⟨.bl _, H, I, rfl, q⟩
theorem zca {A : Around} {k : Nat} (hr : Room k A) : A.units + 60 < cLine := Nat.lt_of_le_of_lt (Nat.add_le_add_left (by decide : 60 ≤ 64) _) hr.units
theorem zaq {n : String} : zcQ X (.builtin "isinstance") (fun xs H Q => ∃ x t c b, xs = [x, .ty c] ∧ TyOf X.K H x (.type t) ∧ PySem.W.kitOne X.K (.type t) (.type c) = some b ∧ Q (.bl b) H) := by
 intro pins s σ H xs us Q I r h
 obtain ⟨x, t, c, b, rfl, ty, e, q⟩ := h
 obtain ⟨u, w', rfl, ru, rw'⟩ := zhw r
 cases rw'
 exact ziZ I ru ty e fun tk => ⟨.bl b, H, I.tok tk, rfl, q⟩
end
section
variable {prog : Program} {w : World} {A : Around} {E : Value → Shared → Prop}
end
section
variable {X : Cx}
end
section
variable {K : PySem.W.Frag} {a p : Addr} {xs : List V} {g : TG} {tc : TT} {te : TE} {σ : St} {H : Hp} {Q : VK}
abbrev zep (p : Addr) (g : TG) (tc : TT) (te : TE) (ys : List V) (x : V) (σ : St) (H : Hp) (N : St → List V → Hp → Prop) : Prop :=
 g x σ H fun σ2 H2 => tc σ2 H2 fun b H3 => if b = true then te σ2 H3 fun y H4 => H4 p = some (.lst ys) ∧ N σ2 (ys ++ [y]) (upd H4 p (.lst (ys ++ [y]))) else N σ2 ys H3
theorem zfN {n : Nat} {J : It} {js : Cap} (Pv : Nat → St → List V → Hp → Prop) (h0 : Pv 0 (inn js σ) [] (upd H p (.lst [])))
 (hl : ∀ i σ ys H, i ≤ n → Pv i σ ys H → H p = some (.lst ys) ∧ ys.length < sizeLine)
 (hgo : ∀ i σ ys H, i < n → Pv i σ ys H → J.go i H) (hst : ∀ σ ys H, Pv n σ ys H → J.stop n H)
 (hs : ∀ (i : Nat) x σ ys H H' (N : St → List V → Hp → Prop), i < n → J.yld i H x H' → Pv i σ ys H → (∀ σ' ys' H', Pv (i + 1) σ' ys' H' → N σ' ys' H') → zep p g tc te ys x σ H' N)
 (hd : ∀ σ ys H, Pv n σ ys H → Q (.ref p) H) :
 zcq J p js g tc te σ H Q := by
 refine ⟨fun i m σ ys H => m = n - i ∧ i ≤ n ∧ Pv i σ ys H, ⟨n, by simp, Nat.zero_le _, h0⟩, ?_⟩
 rintro i m σ ys H ⟨rfl, hi, pv⟩
 obtain ⟨q1, q2⟩ := hl i σ ys H hi pv
 refine ⟨q1, ?_⟩
 by_cases lt : i < n
 · exact .inr ⟨hgo i σ ys H lt pv, q2, fun x H' y => hs i x σ ys H H' (fun σ2 ys2 H2 => ∃ m', m' < n - i ∧ m' = n - (i + 1) ∧ i + 1 ≤ n ∧ Pv (i + 1) σ2 ys2 H2) lt y pv fun σ' ys' H' p' => ⟨n - (i + 1), by omega, rfl, lt, p'⟩⟩
 · have e : i = n := by omega
   subst e
   exact .inl ⟨hst σ ys H pv, hd σ ys H pv⟩
theorem zdm {js : Cap} (Pv : Nat → St → List V → Hp → Prop) (h0 : Pv 0 (inn js σ) [] (upd H p (.lst [])))
 (hl : ∀ i σ ys H, i ≤ xs.length → Pv i σ ys H → SqL K H a xs ∧ H p = some (.lst ys) ∧ ys.length < sizeLine)
 (hs : ∀ (i : Nat) x σ ys H (N : St → List V → Hp → Prop), xs[i]? = some x → Pv i σ ys H → (∀ σ' ys' H', Pv (i + 1) σ' ys' H' → N σ' ys' H') → zep p g tc te ys x σ H N)
 (hd : ∀ σ ys H, Pv xs.length σ ys H → Q (.ref p) H) : zcq (Itl K a) p js g tc te σ H Q :=
 zfN (n := xs.length) (J := Itl K a) (js := js) (σ := σ) (H := H) (p := p) (Q := Q) (g := g) (tc := tc) (te := te) Pv h0 (fun i σ ys H hi pv => (hl i σ ys H hi pv).2)
  (fun i σ ys H hi pv => ⟨xs, xs[i], (hl i σ ys H (Nat.le_of_lt hi) pv).1, by simp [hi]⟩) (fun σ ys H pv => ⟨xs, (hl _ σ ys H (Nat.le_refl _) pv).1, Nat.le_refl _⟩)
  (fun i x σ ys H H' N hi y pv hN => by
   obtain ⟨e, y⟩ := y
   subst e
   exact hs i x σ ys _ N (y xs (hl i σ ys _ (Nat.le_of_lt hi) pv).1) pv hN) hd
theorem ziO {js : Cap} (Pv : Nat → St → List V → Hp → Prop) (h0 : Pv 0 (inn js σ) [] (upd H p (.lst [])))
 (hl : ∀ i σ ys H, i ≤ xs.length → Pv i σ ys H → SqT K H a xs ∧ H p = some (.lst ys) ∧ ys.length < sizeLine)
 (hs : ∀ (i : Nat) x σ ys H (N : St → List V → Hp → Prop), xs[i]? = some x → Pv i σ ys H → (∀ σ' ys' H', Pv (i + 1) σ' ys' H' → N σ' ys' H') → zep p g tc te ys x σ H N)
 (hd : ∀ σ ys H, Pv xs.length σ ys H → Q (.ref p) H) : zcq (Itt K a) p js g tc te σ H Q :=
 zfN (n := xs.length) (J := Itt K a) (js := js) (σ := σ) (H := H) (p := p) (Q := Q) (g := g) (tc := tc) (te := te) Pv h0 (fun i σ ys H hi pv => (hl i σ ys H hi pv).2)
  (fun i σ ys H hi pv => ⟨xs, xs[i], (hl i σ ys H (Nat.le_of_lt hi) pv).1, by simp [hi]⟩) (fun σ ys H pv => ⟨xs, (hl _ σ ys H (Nat.le_refl _) pv).1, Nat.le_refl _⟩)
  (fun i x σ ys H H' N hi y pv hN => by
   obtain ⟨e, y⟩ := y
   subst e
   exact hs i x σ ys _ N (y xs (hl i σ ys _ (Nat.le_of_lt hi) pv).1) pv hN) hd
theorem zdG {js : Cap} {lo : Int} {n : Nat} (Pv : Nat → St → List V → Hp → Prop) (h0 : Pv 0 (inn js σ) [] (upd H p (.lst [])))
 (hl : ∀ i σ ys H, i ≤ n → Pv i σ ys H → H p = some (.lst ys) ∧ ys.length < sizeLine)
 (hs : ∀ (i : Nat) σ ys H (N : St → List V → Hp → Prop), i < n → Pv i σ ys H → (∀ σ' ys' H', Pv (i + 1) σ' ys' H' → N σ' ys' H') → zep p g tc te ys (.int (lo + i)) σ H N)
 (hd : ∀ σ ys H, Pv n σ ys H → Q (.ref p) H) : zcq (Itr lo n) p js g tc te σ H Q :=
 zfN (n := n) (J := Itr lo n) (js := js) (σ := σ) (H := H) (p := p) (Q := Q) (g := g) (tc := tc) (te := te) Pv h0 hl
  (fun i σ ys H hi pv => hi) (fun σ ys H pv => Nat.le_refl n)
  (fun i x σ ys H H' N hi y pv hN => by
   obtain ⟨e, y⟩ := y
   subst e y
   exact hs i σ ys _ N hi pv hN) hd
end
def zhq (outer : Scope) (N N' : List Str) (js : Cap) (scope : Scope) : Bool :=
 decide (js.length = N'.length) && (scope.kind == .function) && scope.names.all (fun p => p.2 != .cell && (p.2 != .local || scope.names.lookup p.1 == some .local) && (p.2 != .free || (outer.names.lookup p.1 == some .cell || outer.names.lookup p.1 == some .free)))
  && (List.range js.length).all fun i => match js[i]? with
   | some (some j) => (match N'[i]? with | some x => N[j]? == some x && scope.names.lookup x == some .free | none => false)
   | _ => true
theorem zbX {X : Cx} {N N' : List Str} {js : Cap} {scope outer : Scope} (h : zhq outer N N' js scope = true) (hN : X.N = N := by rfl) (ho : X.env.scope = outer := by rfl) : CapOk X N' js scope := by
 subst hN ho
 unfold zhq at h
 rw [Bool.and_eq_true, Bool.and_eq_true, Bool.and_eq_true] at h
 obtain ⟨⟨⟨h1, h2⟩, h3⟩, h4⟩ := h
 rw [List.all_eq_true] at h3 h4
 refine ⟨of_decide_eq_true h1, eq_of_beq h2, fun p hp e => ?_, fun p hp e => ?_, fun p hp e => ?_, fun i j e => ?_⟩
 · have := h3 p hp
   rw [e] at this
   simp at this
 · have := h3 p hp
   rw [e] at this
   simp at this
   exact this
 · have := h3 p hp
   rw [e] at this
   simp at this
   exact this
 · have hi : i < js.length := (List.getElem?_eq_some_iff.mp e).1
   have := h4 i (List.mem_range.mpr hi)
   rw [e] at this
   simp only at this
   cases q : N'[i]? with
   | none => rw [q] at this; cases this
   | some x =>
    rw [q] at this
    simp only [Bool.and_eq_true, beq_iff_eq] at this
    exact ⟨x, rfl, this.1, this.2⟩
def FnH (P : Program) (w : World) (K : PySem.W.Frag) (mg : Str → Option Value) (base : Heap) (k : Nat) (x : Str) (ps : List Str) (sp : Sp) : Prop :=
 ∃ f fd, FnOk P w K mg base CX0 k f fd ps sp ∧ Binds K fd ps [] ∧ PySem.W.keepIn K (.ref f) = true ∧ mg x = some (.ref f)
section
variable {X : Cx} {k : Nat} {x : Str} {ps : List Str} {sp : Sp} {e : Expr} {es : List Expr} {t : TA} {p pos : Pos}
theorem zay (F : FnH X.prog X.w X.K X.mg X.base k x ps sp) (hr : Room k X.A) (hg : Gl X x) (ha : PA X (e :: es) t) (hdb : (x == ("__debug__" : Str)) = false := by decide)
 (he : starEach (e :: es) X.env = (false, eval e X.env) :: starEach es X.env := by rfl) (hpl : (backTo pos (starEach es X.env)).any (·.1) = false := by rfl) : PE X (.Call (.Name x p) (e :: es) [] pos) (zlh sp [] E0 t) := by
 obtain ⟨f, fd, h1, h2, h3, h4⟩ := F
 exact zkT h1 hr hg h4 h3 h2 .nil zl7 ha hdb he hpl
end
structure Bl (mg : Str → Option Value) : Prop where
 len_ : mg "len" = none
 range_ : mg "range" = none
 isinstance_ : mg "isinstance" = none
 int_ : mg "int" = none
 bool_ : mg "bool" = none
 tuple_ : mg "tuple" = none
 list_ : mg "list" = none
 max_ : mg "max" = none
 min_ : mg "min" = none
 all_ : mg "all" = none
 zip_ : mg "zip" = none
 str_ : mg "str" = none
 dict_ : mg "dict" = none
 sorted_ : mg "sorted" = none
 set_ : mg "set" = none
 any_ : mg "any" = none
 sum_ : mg "sum" = none
 enumerate_ : mg "enumerate" = none
 repr_ : mg "repr" = none
 ord_ : mg "ord" = none
 chr_ : mg "chr" = none
 abs_ : mg "abs" = none
 reversed_ : mg "reversed" = none
theorem zhs : bootBuiltins "int" = some (.type "int") := by decide +kernel
theorem ze9 : bootBuiltins "bool" = some (.type "bool") := by decide +kernel
theorem zbi : bootBuiltins "tuple" = some (.type "tuple") := by decide +kernel
theorem zcP : bootBuiltins "list" = some (.type "list") := by decide +kernel
theorem zhr : bootBuiltins "str" = some (.type "str") := by decide +kernel
theorem zk3 : bootBuiltins "dict" = some (.type "dict") := by decide +kernel
theorem zak : bootBuiltins "isinstance" = some (.builtin "isinstance") := by decide +kernel
theorem zba : bootBuiltins "len" = some (.builtin "len") := by decide +kernel
theorem zku : bootBuiltins "max" = some (.builtin "max") := by decide +kernel
theorem zkt : bootBuiltins "min" = some (.builtin "min") := by decide +kernel
theorem zf2 : bootBuiltins "all" = some (.builtin "all") := by decide +kernel
theorem zea : bootBuiltins "sorted" = some (.builtin "sorted") := by decide +kernel
theorem zeA {n : Nat} (h : n ≤ 1000) : n ≤ sizeLine := Nat.le_of_lt (zax h)
theorem zae {H : Hp} {p : Addr} (h : H p = none) (o : HO) : Same H (upd H p o) := fun b u q => by rw [zan (zaz q h)]; exact q
def eV : Option Int → V
 | none => .non
 | some i => .int i
theorem zfU (o : Option Int) : (!decide (eV o = V.non)) = o.isSome := by
 cases o with
 | none => rfl
 | some i => rfl
def SameB (b g : Addr) (H H' : Hp) : Prop := ∀ a o, H a = some o → a ≠ b → a ≠ g → H' a = some o
theorem SameB.trans {b g : Addr} {H H1 H2 : Hp} (x : SameB b g H H1) (y : SameB b g H1 H2) : SameB b g H H2 := fun a o h n1 n2 => y a o (x a o h n1 n2) n1 n2
theorem Same.sameB {b g : Addr} {H H1 : Hp} (x : Same H H1) : SameB b g H H1 := fun a o h _ _ => x a o h
theorem zhd {K : PySem.W.Frag} {H : Hp} : ∀ ns : List Int, Reps K H (ns.map PD.int) (ns.map V.int)
 | [] => by show Reps K H [] []; rw [Reps]
 | n :: ns => by
  show Reps K H (.int n :: ns.map PD.int) (.int n :: ns.map V.int)
  rw [Reps]
  exact ⟨_, _, rfl, by rw [Rep], zhd ns⟩
theorem zen : ∀ ns : List Int, zbO (ns.map PD.int) = 0
 | [] => by show zbO [] = 0; rw [zbO]
 | n :: ns => by
  show zbO (.int n :: ns.map PD.int) = 0
  rw [zbO, zen ns, zbW]
  all_goals simp
theorem zly {K : PySem.W.Frag} {H : Hp} {a p : Addr} {ns : List Int} {Q : VK} (h : SqL K H a (ns.map V.int)) (hp : SqL K H p []) (q : Q (.bl (!ns.isEmpty)) H) : rNeD K (.ref a) (.ref p) H Q := by
 refine ⟨.lst (ns.map PD.int), .lst [], by rw [Rep]; exact ⟨a, _, rfl, h, zhd ns⟩, by rw [Rep]; exact ⟨p, _, rfl, hp, by rw [Reps]⟩, by rw [zbW, zen]; decide, ?_⟩
 cases ns with
 | nil => rw [pyEq, show zcV (([] : List Int).map PD.int) [] = true from zcA []]; exact q
 | cons n ns => rw [pyEq, zbk (by simp)]; exact q
theorem at0 {α : Type} {x : α} {r : List α} : atI (x :: r) 0 = some x := zbC (j := 0) rfl
theorem ix0 {α : Type} {x : α} {r : List α} : ixN (x :: r).length 0 = some 0 := by
 unfold ixN
 rw [if_pos (by decide), if_pos (by rw [List.length_cons]; omega)]
 rfl
theorem zlQ {ls : List Int} {i : Int} (h0 : 0 ≤ i) (h1 : i < (ls.length : Int)) : ∃ v, atI (ls.map V.int) i = some (.int v) ∧ v ∈ ls := by
 obtain ⟨k, rfl⟩ := Int.eq_ofNat_of_zero_le h0
 have hk : k < ls.length := by omega
 exact ⟨ls[k], zbC (by rw [List.getElem?_map, List.getElem?_eq_getElem hk]; rfl), List.getElem_mem _⟩
theorem sz0 : (0 : Nat) ≤ sizeLine := Nat.zero_le _
theorem zaw {α : Type} {l : List α} {i : Nat} {x : α} (h : l[i]? = some x) : l.take (i + 1) = l.take i ++ [x] := by
 rw [List.take_succ, h]
 rfl
theorem ziP {K : PySem.W.Frag} {H : Hp} {a p : Addr} {Q : VK} {js : Cap} {σ cap : St} {tc : TT} {te : TE} (ns : List Int) (f : Int → Int) (c : Int → Bool) (hn : ns.length ≤ 900) (e : SqL K H a (ns.map V.int)) (hp : H p = none) (hσ : inn js σ = none :: cap)
 (ht : ∀ n H' (R : Bool → Hp → Prop), Same H H' → R (c n) H' → tc (some (.int n) :: cap) H' R) (he : ∀ n H' (R : VK), Same H H' → R (.int (f n)) H' → te (some (.int n) :: cap) H' R)
 (hq : ∀ H', Same H H' → H' p = some (.lst (((ns.filter c).map f).map V.int)) → Q (.ref p) H') : zcq (Itl K a) p js (zcO 0) tc te σ H Q := by
 have s0 := zae hp (.lst [])
 refine zdm (xs := ns.map V.int) (fun i σ' ys H' => (∃ v, σ' = v :: cap) ∧ Same H H' ∧ H' p = some (.lst ys) ∧ ys = ((((ns.take i).filter c).map f).map V.int)) ⟨⟨_, hσ⟩, s0, zab, rfl⟩ ?_ ?_ ?_
 · rintro i σ' ys H' hi ⟨_, s, h1, h2⟩
   refine ⟨s.seq e, h1, ?_⟩
   rw [h2]
   simp only [List.length_map]
   have := List.length_filter_le c (ns.take i)
   rw [List.length_take] at this
   exact zax (by omega)
 · rintro i x σ' ys H' N hx ⟨⟨v, rfl⟩, s, h1, h2⟩ hN
   rw [List.getElem?_map] at hx
   cases hn' : ns[i]? with
   | none => rw [hn'] at hx; cases hx
   | some n =>
    rw [hn'] at hx
    have hx : V.int n = x := Option.some.inj hx
    subst hx
    refine ht n H' _ s ?_
    have e1 := zaw hn'
    cases hc : c n with
    | true =>
     refine iteT (he n H' _ s ⟨h1, hN _ _ _ ⟨⟨_, rfl⟩, ?_, zab, ?_⟩⟩)
     · intro b o q
       have : b ≠ p := fun z => by rw [z, hp] at q; cases q
       rw [zan this]
       exact s b o q
     · rw [h2, e1, List.filter_append, List.filter_cons, if_pos hc]
       simp
    | false =>
     refine iteF (hN _ _ _ ⟨⟨_, rfl⟩, s, h1, ?_⟩)
     rw [h2, e1, List.filter_append, List.filter_cons, if_neg (by rw [hc]; exact Bool.false_ne_true)]
     simp
 · rintro σ' ys H' ⟨_, s, h1, h2⟩
   refine hq H' s ?_
   rw [h1, h2, List.length_map, List.take_length]
theorem ziQ {K : PySem.W.Frag} {H : Hp} {a p : Addr} {Q : VK} {js : Cap} {σ cap : St} {tc : TT} {te : TE} (os : List (Option Int)) (c : Option Int → Bool) (hn : os.length ≤ 900) (e : SqT K H a (os.map eV)) (hp : H p = none) (hσ : inn js σ = none :: cap)
 (mono : ∀ {H'}, Same H H' → SqT K H' a (os.map eV))
 (ht : ∀ o H' (R : Bool → Hp → Prop), Same H H' → R (c o) H' → tc (some (eV o) :: cap) H' R) (he : ∀ o H' (R : VK), Same H H' → R (eV o) H' → te (some (eV o) :: cap) H' R)
 (hq : ∀ H', Same H H' → H' p = some (.lst ((os.filter c).map eV)) → Q (.ref p) H') : zcq (Itt K a) p js (zcO 0) tc te σ H Q := by
 have s0 := zae hp (.lst [])
 refine ziO (xs := os.map eV) (fun i σ' ys H' => (∃ v, σ' = v :: cap) ∧ Same H H' ∧ H' p = some (.lst ys) ∧ ys = ((os.take i).filter c).map eV) ⟨⟨_, hσ⟩, s0, zab, rfl⟩ ?_ ?_ ?_
 · rintro i σ' ys H' hi ⟨_, s, h1, h2⟩
   refine ⟨mono s, h1, ?_⟩
   rw [h2]
   simp only [List.length_map]
   have := List.length_filter_le c (os.take i)
   rw [List.length_take] at this
   exact zax (by omega)
 · rintro i x σ' ys H' N hx ⟨⟨v, rfl⟩, s, h1, h2⟩ hN
   rw [List.getElem?_map] at hx
   cases hn' : os[i]? with
   | none => rw [hn'] at hx; cases hx
   | some n =>
    rw [hn'] at hx
    have hx : eV n = x := Option.some.inj hx
    subst hx
    refine ht n H' _ s ?_
    have e1 := zaw hn'
    cases hc : c n with
    | true =>
     refine iteT (he n H' _ s ⟨h1, hN _ _ _ ⟨⟨_, rfl⟩, ?_, zab, ?_⟩⟩)
     · intro b o q
       have : b ≠ p := fun z => by rw [z, hp] at q; cases q
       rw [zan this]
       exact s b o q
     · rw [h2, e1, List.filter_append, List.filter_cons, if_pos hc]
       simp
    | false =>
     refine iteF (hN _ _ _ ⟨⟨_, rfl⟩, s, h1, ?_⟩)
     rw [h2, e1, List.filter_append, List.filter_cons, if_neg (by rw [hc]; exact Bool.false_ne_true)]
     simp
 · rintro σ' ys H' ⟨_, s, h1, h2⟩
   refine hq H' s ?_
   rw [h1, h2, List.length_map, List.take_length]
theorem Same.seqT {K : PySem.W.Frag} {H H' : Hp} {a : Addr} {xs : List V} (e : Same H H') (h : SqT K H a xs) : SqT K H' a xs := by
 rcases h with (h | ⟨o, h⟩) | h
 · exact .inl (.inl (e _ _ h))
 · exact .inl (.inr ⟨o, e _ _ h⟩)
 · exact .inr h
def Itv (xs : List V) : It := ⟨fun i _ => i < xs.length, fun i H x H' => H' = H ∧ xs[i]? = some x, fun i _ => xs.length ≤ i⟩
theorem zer {P : Program} {w : World} {K : PySem.W.Frag} {tg : Expr} (it : Addr) (x : Str) (t : Tok) : Turn P w K tg (Itv (x.cps.toList.map fun c => V.str ⟨#[c]⟩)) [it] it (fun i h => h.IsStrIter it "str_ascii_iterator" x t i) where
 mem := by simp
 obj := fun i h st b hb => by
  have e : b = it := by simpa using hb
  subst e
  obtain ⟨o, e, c, d⟩ := st
  exact ⟨o, e, fun v z => by rw [d] at z; cases z⟩
 keep := fun i h h' st k => let ⟨o, ho, r⟩ := st; ⟨o, k it (by simp) o ho, r⟩
 item := by
  intro X hP hw hK hc i pins s σ H E I hf st hg
  subst hP hw hK
  have hg : i < (x.cps.toList.map fun c => V.str ⟨#[c]⟩).length := hg
  rw [List.length_map, Array.length_toList] at hg
  obtain ⟨f0, f1, f2, f3, f4, f5⟩ := hf it (by simp)
  refine wpAny_pyNext_ascii_item st (c := x.cps[i]) (by simp [hg]) fun h' st' sb => ?_
  have I1 : Inv X pins σ H { s with heap := h', toks := s.toks + 1 } := I.turned (fun b o hb e => (sb.2 b hb).trans e) f0 f1 f3 f4 f5
  obtain ⟨o, e, c, d⟩ := id st'
  exact ⟨_, rfl, zi8 (s := { s with heap := h', toks := s.toks + 1 }) e c d (by decide) ⟨.str ⟨#[x.cps[i]]⟩, H, I1, ⟨_, rfl⟩, ⟨rfl, by rw [List.getElem?_map, Array.getElem?_toList, Array.getElem?_eq_getElem hg]; rfl⟩, st', fun b hb => (hf b hb).1⟩⟩
 done := by
  intro X hP hw hK hc i pins s σ H E I hf st hg
  subst hP hw hK
  have hg : (x.cps.toList.map fun c => V.str ⟨#[c]⟩).length ≤ i := hg
  rw [List.length_map, Array.length_toList] at hg
  obtain ⟨f0, f1, f2, f3, f4, f5⟩ := hf it (by simp)
  exact wpAny_pyNext_ascii_end (I.ok.hd hc) st (by simpa using hg) fun h' eb => ⟨rfl, I.turned (t' := s.toks) (fun b o hb e => eb b o hb e) f0 f1 f3 f4 f5⟩
 self := fun _ _ _ _ _ st h => wpAny_pyIter_striter_ascii st h
theorem zfd {P : Program} {w : World} {K : PySem.W.Frag} {tg : Expr} (it : Addr) (x : Str) (t : Tok) : Turn P w K tg (Itv (x.cps.toList.map fun c => V.str ⟨#[c]⟩)) [it] it (fun i h => h.IsStrIter it "str_iterator" x t i) where
 mem := by simp
 obj := fun i h st b hb => by
  have e : b = it := by simpa using hb
  subst e
  obtain ⟨o, e, c, d⟩ := st
  exact ⟨o, e, fun v z => by rw [d] at z; cases z⟩
 keep := fun i h h' st k => let ⟨o, ho, r⟩ := st; ⟨o, k it (by simp) o ho, r⟩
 item := by
  intro X hP hw hK hc i pins s σ H E I hf st hg
  subst hP hw hK
  have hg : i < (x.cps.toList.map fun c => V.str ⟨#[c]⟩).length := hg
  rw [List.length_map, Array.length_toList] at hg
  obtain ⟨f0, f1, f2, f3, f4, f5⟩ := hf it (by simp)
  refine wpAny_pyNext_wide_item st (c := x.cps[i]) (by simp [hg]) fun h' st' sb => ?_
  have I1 : Inv X pins σ H { s with heap := h', toks := s.toks + 1 } := I.turned (fun b o hb e => (sb.2 b hb).trans e) f0 f1 f3 f4 f5
  obtain ⟨o, e, c, d⟩ := id st'
  exact ⟨_, rfl, zi8 (s := { s with heap := h', toks := s.toks + 1 }) e c d (by decide) ⟨.str ⟨#[x.cps[i]]⟩, H, I1, ⟨_, rfl⟩, ⟨rfl, by rw [List.getElem?_map, Array.getElem?_toList, Array.getElem?_eq_getElem hg]; rfl⟩, st', fun b hb => (hf b hb).1⟩⟩
 done := by
  intro X hP hw hK hc i pins s σ H E I hf st hg
  subst hP hw hK
  have hg : (x.cps.toList.map fun c => V.str ⟨#[c]⟩).length ≤ i := hg
  rw [List.length_map, Array.length_toList] at hg
  obtain ⟨f0, f1, f2, f3, f4, f5⟩ := hf it (by simp)
  exact wpAny_pyNext_wide_end (I.ok.hd hc) st (by simpa using hg) fun h' eb => ⟨rfl, I.turned (t' := s.toks) (fun b o hb e => eb b o hb e) f0 f1 f3 f4 f5⟩
 self := fun _ _ _ _ _ st h => wpAny_pyIter_striter_wide st h
section
variable {X : Cx} {tg : Expr}
def signs (x : Str) : List V := x.cps.toList.map fun c => V.str ⟨#[c]⟩
def iStr (tl : TE) : TI := fun σ H R => tl σ H fun v H1 => ∃ x, v = .str x ∧ R (Itv (signs x)) H1
theorem zki {l : Expr} {tl : TE} (hl : PE X l tl) : PI X tg l (iStr tl) := by
 intro pins s σ H R I h
 refine thn (hl pins s σ H _ I h) fun v s1 ⟨y, H1, I1, r1, q1⟩ => ?_
 obtain ⟨x, e, q⟩ := q1
 subst e
 obtain ⟨t, rfl⟩ := r1
 cases ha : x.cps.all (· < 128)
 · refine wpAny_pyIter_wide ha ?_
   refine ⟨s1.heap.objs.size, [s1.heap.objs.size], _, _, H1, rfl, I1.kept (t' := s1.toks) fun b o e => Heap.get?_push_of_some _ e, zfd _ x t, ⟨_, Heap.get?_push_size _ rfl, rfl, rfl⟩, fun b hb => ?_, q⟩
   have e : b = s1.heap.objs.size := by simpa using hb
   subst e
   exact I1.fpOk (Nat.le_refl _) (I1.hok.fresh (Nat.le_refl _))
 · refine wpAny_pyIter_ascii ha ?_
   refine ⟨s1.heap.objs.size, [s1.heap.objs.size], _, _, H1, rfl, I1.kept (t' := s1.toks) fun b o e => Heap.get?_push_of_some _ e, zer _ x t, ⟨_, Heap.get?_push_size _ rfl, rfl, rfl⟩, fun b hb => ?_, q⟩
   have e : b = s1.heap.objs.size := by simpa using hb
   subst e
   exact I1.fpOk (Nat.le_refl _) (I1.hok.fresh (Nat.le_refl _))
theorem zdT : OpR X (compareOp .LtE) (fun x y H Q => ∃ i j, x = .str i ∧ y = .str j ∧ Q (.bl (!decide (j.cps.toList < i.cps.toList))) H) := by
 intro pins s σ H x y v u Q I rx ry h
 obtain ⟨i, j, rfl, rfl, q⟩ := h
 obtain ⟨t, rfl⟩ := rx
 obtain ⟨t', rfl⟩ := ry
 exact PySem.P.le_str (zaF I q rfl)
theorem zdc (hc : X.calm = true) : zcQ X (.builtin "all") (fun xs H Q => ∃ (a : Addr) (bs : List Bool), xs = [.ref a] ∧ SqL X.K H a (bs.map V.bl) ∧ Q (.bl (bs.all id)) H) := by
 intro pins s σ H xs us Q I r h
 obtain ⟨a, bs, rfl, hq, q⟩ := h
 obtain ⟨u, rfl, ru⟩ := zcR r
 cases ru
 obtain ⟨its, rv, p, hzz⟩ := I.list hq
 have ll := rv.length
 rw [List.length_map] at ll
 refine call_all_walk (wpAny_pyIter_list p.isList ?_)
 obtain ⟨o, ho, _⟩ := id p.isList
 have lt := Heap.lt_size ho
 refine ⟨s.heap.objs.size, _, _, _, _, _, fun i => bs.getD i false, rfl, Walks.list (A := X.A.in1) (I.ok.hd hc) s.heap.objs.size a (Nat.ne_of_lt lt) its.toArray, ⟨⟨_, Heap.get?_push_size _ rfl, rfl, rfl⟩, p.isList.at fun o' e => Heap.get?_push_of_some _ e⟩, ?_, fun g t' k => ?_⟩
 · intro i v s' Q' E' hv q'
   have hi : its[i]? = some v := by simpa using hv
   have hl : i < its.length := (List.getElem?_eq_some_iff.mp hi).1
   have e : (bs.map V.bl)[i]? = some (.bl (bs.getD i false)) := by
    rw [List.getElem?_map, List.getElem?_eq_getElem (by omega), List.getD_eq_getElem?_getD, List.getElem?_eq_getElem (by omega)]
    rfl
   obtain ⟨u, h1, h2⟩ := Vals.get rv e
   rw [hi] at h1
   cases h1
   cases h2
   exact wpAny_truthy_bool q'
 · refine ⟨.bl (bs.all id), H, I.kept (fun b o' e => k b o' ?_ (Heap.get?_push_of_some _ e)), ?_, q⟩
   · intro z
     exact absurd (List.mem_singleton.mp z) (Nat.ne_of_lt (Heap.lt_size e))
   · show Value.bool _ = Value.bool _
     congr 1
     rw [List.size_toArray, ← ll]
     clear rv ll hq q p ho lt hzz
     induction bs with
     | nil => rfl
     | cons b r ih =>
      rw [List.length_cons, List.range_succ_eq_map, List.all_cons, List.all_map, List.all_cons, ← ih]
      rfl
end
theorem zko {xs : List V} {p : Addr} {g : TG} {tc : TT} {te : TE} {σ : St} {H : Hp} {Q : VK} {js : Cap} (Pv : Nat → St → List V → Hp → Prop) (h0 : Pv 0 (inn js σ) [] (upd H p (.lst [])))
 (hl : ∀ i σ ys H, i ≤ xs.length → Pv i σ ys H → H p = some (.lst ys) ∧ ys.length < sizeLine)
 (hs : ∀ (i : Nat) x σ ys H (N : St → List V → Hp → Prop), xs[i]? = some x → Pv i σ ys H → (∀ σ' ys' H', Pv (i + 1) σ' ys' H' → N σ' ys' H') → zep p g tc te ys x σ H N)
 (hd : ∀ σ ys H, Pv xs.length σ ys H → Q (.ref p) H) : zcq (Itv xs) p js g tc te σ H Q :=
 zfN (n := xs.length) (J := Itv xs) (js := js) (σ := σ) (H := H) (p := p) (Q := Q) (g := g) (tc := tc) (te := te) Pv h0 hl
  (fun i σ ys H hi pv => hi) (fun σ ys H pv => Nat.le_refl _)
  (fun i x σ ys H H' N hi y pv hN => by
   obtain ⟨e, y⟩ := y
   subst e
   exact hs i x σ ys _ N y pv hN) hd
section
variable {prog : Program} {w : World} {A : Around} {E : Value → Shared → Prop} {R : Result → Shared → Prop} {s : Shared}
theorem zfV {kx vx target iter : Expr} {ifs : List Expr} {scope : Scope} {pos : Pos} {it : Value} {D : Addr} {env : Env} (I : Nat → Shared → Prop)
 (turn : ∀ n s, I n s → wpAny (model prog w) A (pyNext it) (fun r s₁ => match r with
  | none => R (.ok .next) s₁
  | some v => wpAny (model prog w) A (letOwnedTupleGo target it v) (fun _ s₁' => wpAny (model prog w) A (assign target env v) (fun _ s₂ =>
   wpAny (model prog w) A (forIn ifs true fun c r => if r = true then do let ok ← isTrue c env (eval c env); pure (ForInStep.yield ok) else pure (ForInStep.yield r)) (fun ok s₃ =>
    if ok = true then wpAny (model prog w) A (eval kx env) (fun kv s₄ => wpAny (model prog w) A (eval vx env) (fun vv s₅ =>
     wpAny (model prog w) A (dictSet D kv vv) (fun _ s₆ => ∃ m, m < n ∧ I m s₆) (fun _ _ => False) s₅) (fun _ _ => False) s₄) (fun _ _ => False) s₃
    else ∃ m, m < n ∧ I m s₃) (fun _ _ => False) s₂) (fun _ _ => False) s₁') (fun _ _ => False) s₁) (fun _ _ => False) s)
 (n : Nat) (h : I n s) :
 codeAny (model prog w) A (.compLoop (.DictComp kx vx [⟨target, iter, ifs, 0⟩] scope pos) 0 it (.ref D) env) R s := by
 refine codeAny_loop rfl I (fun n s hI => ?_) n h
 show wpAny _ A ((compTurn (.DictComp kx vx [⟨target, iter, ifs, 0⟩] scope pos) 0 it (.ref D) env).onRaise (fun x => do noteFrame x env; theTreesLotGoes x)) _ _ s
 refine wpAny_noted ?_
 rw [compTurn_dict]
 refine wpAny_bind (wpAny_standAt (wpAny_bind (wpAny_mono (turn n s hI) (fun r s₁ h₁ => ?_) fun _ _ z => z.elim)))
 cases r with
 | none => exact wpAny_pure h₁
 | some v =>
  refine wpAny_bind (wpAny_mono h₁ (fun _ s₁' h₁' => ?_) fun _ _ z => z.elim)
  refine wpAny_bind (wpAny_mono h₁' (fun _ s₂ h₂ => wpAny_bind (wpAny_mono h₂ (fun ok s₃ h₃ => ?_) fun _ _ z => z.elim)) fun _ _ z => z.elim)
  cases ok with
  | false => exact wpAny_pure ⟨rfl, h₃⟩
  | true =>
   exact wpAny_bind (wpAny_bind (wpAny_mono h₃ (fun kv s₄ h₄ => wpAny_bind (wpAny_holding (wpAny_mono h₄ (fun vv s₅ h₅ => wpAny_bind (wpAny_standAt (wpAny_holding (wpAny_mono h₅ (fun _ s₆ h₆ => wpAny_pure ⟨rfl, h₆⟩) fun _ _ z => z.elim)))) fun _ _ z => z.elim)) ) fun _ _ z => z.elim))
end
def zjy (J : It) (p : Addr) (js : Cap) (g : TG) (tc : TT) (tk tv : TE) (σ : St) (H : Hp) (Q : VK) : Prop :=
 ∃ W : Nat → Nat → St → List (Key × V) → Hp → Prop, (∃ m, W 0 m (inn js σ) [] (upd H p (.dK []))) ∧ ∀ i m σ' kvs H, W i m σ' kvs H → H p = some (.dK kvs) ∧
  ((J.stop i H ∧ Q (.ref p) H) ∨ (J.go i H ∧ kvs.length < sizeLine ∧ ∀ x H', J.yld i H x H' → g x σ' H' fun σ2 H2 => tc σ2 H2 fun b H3 =>
    if b = true then tk σ2 H3 fun k H4 => tv σ2 H4 fun y H5 => ∃ ky, k = kV ky ∧ H5 p = some (.dK kvs) ∧ ∃ m', m' < m ∧ W (i + 1) m' σ2 (putK kvs ky y) (upd H5 p (.dK (putK kvs ky y)))
    else ∃ m', m' < m ∧ W (i + 1) m' σ2 kvs H3))
def tDC (wi : TI) (js : Cap) (g : TG) (tc : TT) (tk tv : TE) : TE := fun σ H Q => wi σ H fun J H1 => ∀ p, H1 p = none → zjy J p js g tc tk tv σ H1 Q
section
variable {X : Cx} {tg iter kx vx : Expr} {ifs : List Expr} {wi : TI} {js : Cap} {g : TG} {tc : TT} {tk tv : TE} {N' : List Str} {scope : Scope} {pos : Pos}
theorem zj9 {pins : List (Addr × Obj)} {σ : St} {H : Hp} {s : Shared} {E : Value → Shared → Prop} {Q : VK} {J : It} {it : Addr} {fp : List Addr} {tn : Nat → Heap → Prop} {cl : List (Str × Addr)}
 (hc : X.calm = true) (ok : CapOk X N' js scope)
 (h2 : ∀ x c, cl.lookup x = some c → X.env.cells.lookup x = some c) (h3 : ∀ p ∈ scope.names, p.2 = .free → (cl.lookup p.1).isSome = true)
 (hg : ∀ cl C s₀ H₀ ex, PG (lcx X N' scope cl C s₀ H₀ ex) tg g) (ht : ∀ cl C s₀ H₀ ex, PIfs (lcx X N' scope cl C s₀ H₀ ex) ifs tc) (he : ∀ cl C s₀ H₀ ex, PE (lcx X N' scope cl C s₀ H₀ ex) kx tk) (hv : ∀ cl C s₀ H₀ ex, PE (lcx X N' scope cl C s₀ H₀ ex) vx tv)
 (I : Inv X pins σ H s) (T : Turn X.prog X.w X.K tg J fp it tn) (st : tn 0 s.heap) (hf : ∀ b ∈ fp, FpOk X pins H b)
 (hw : ∀ p, H p = none → zjy J p js g tc tk tv σ H Q) :
 wpAny (model X.prog X.w) X.A newDict (fun acc s₃ => wpAny (model X.prog X.w) X.A (newFunctionEnv scope X.env.globals cl [] X.env.qual none .none (some X.env)) (fun cenv s₄ =>
  codeAny (model X.prog X.w) X.A (.compStart (.DictComp kx vx [⟨tg, iter, ifs, 0⟩] scope pos) 0 (.ref it) acc { cenv with scope := relabel scope X.env })
   (fun r s' => r = .ok .next ∧ (∃ m, s'.heap.Ns cenv.locals m) ∧ ∃ v H', RelV v acc ∧ Inv X pins σ H' s' ∧ FpOk X pins H' cenv.locals ∧ Q v H') s₄) E s₃) E s := by
 have objs := T.obj _ _ st
 refine wpAny_newObj_type ?_
 obtain ⟨W, ⟨m0, w0⟩, turn⟩ := hw s.heap.objs.size (I.hok.fresh (Nat.le_refl _))
 generalize hp : s.heap.objs.size = p at *
 have kp : ∀ b u, s.heap.get? b = some u → (s.heap.push { cls := .type "dict", data := .dict #[] }).get? b = some u := fun b u e => Heap.get?_push_of_some _ e
 have I3 : Inv X pins σ (upd H p (.dK [])) { s with heap := s.heap.push { cls := .type "dict", data := .dict #[] } } := by
  subst hp
  exact I.laid (t' := s.toks) kp (Nat.le_refl _) (zho s.heap I.big)
 have fne : ∀ b ∈ fp, b ≠ p := fun b hb => by
  obtain ⟨o, e, _⟩ := objs b hb
  have := Heap.lt_size e
  rw [← hp]
  exact Nat.ne_of_lt this
 have hf3 : ∀ b ∈ fp, FpOk X pins (upd H p (.dK [])) b := fun b hb => ⟨by rw [zan (fne b hb)]; exact (hf b hb).1, (hf b hb).2⟩
 have st3 : tn 0 (s.heap.push { cls := .type "dict", data := .dict #[] }) := T.keep _ _ _ st fun b _ o e => kp b o e
 have lt3 : ∀ b ∈ fp, b < (s.heap.push { cls := .type "dict", data := .dict #[] }).objs.size := fun b hb => by
  obtain ⟨o, e, _⟩ := objs b hb
  exact Heap.lt_size (kp b o e)
 generalize hs3 : ({ s with heap := s.heap.push { cls := .type "dict", data := .dict #[] } } : Shared) = s3 at *
 have eh : s.heap.push { cls := .type "dict", data := .dict #[] } = s3.heap := by rw [← hs3]
 rw [eh] at st3 lt3
 refine wpAny_newFunctionEnv ok.ncell (by intro y hy; simp at hy) (fun h₁ hns₁ hsb₁ => ?_) ok.kind
 try dsimp only at hns₁ hsb₁ ⊢
 have k4 : ∀ b u, s3.heap.get? b = some u → h₁.get? b = some u := fun b u e => (hsb₁.2 b (Nat.ne_of_lt (Heap.lt_size e))).trans (Heap.get?_push_of_some _ e)
 have I4 := zc7 (cl := cl) (h₁ := h₁) (t' := s3.toks + ([] : List (Str × Value)).length) ok I3 h2 h3 hf3 lt3 k4 ⟨_, hns₁⟩
 have st4 : tn 0 h₁ := T.keep _ _ _ st3 fun b _ o e => k4 b o e
 generalize hX : lcx X N' scope cl s3.heap.objs.size s3 (upd H p (.dK [])) fp = X' at I4
 have hg' : PG X' tg g := by rw [← hX]; exact hg _ _ _ _ _
 have ht' : PIfs X' ifs tc := by rw [← hX]; exact ht _ _ _ _ _
 have he' : PE X' kx tk := by rw [← hX]; exact he _ _ _ _ _
 have hv' : PE X' vx tv := by rw [← hX]; exact hv _ _ _ _ _
 have eP : X'.prog = X.prog := by rw [← hX]; rfl
 have ew : X'.w = X.w := by rw [← hX]; rfl
 have eK : X'.K = X.K := by rw [← hX]; rfl
 have ec : X'.calm = true := by rw [← hX]; exact hc
 have eA : X'.A = X.A := by rw [← hX]; rfl
 have ex : X'.xe = fun _ _ => False := by rw [← hX]; rfl
 have eE : X'.env = compEnvC scope cl s3.heap.objs.size X.env := by rw [← hX]; rfl
 have eEx : X'.ex = fp := by rw [← hX]; rfl
 have eN : X'.pn = [] := by rw [← hX]; rfl
 have stat : ∀ {H' : Hp}, (∀ b ∈ fp, H' b = none) → ∀ b ∈ fp, FpOk X' [] H' b := fun {H'} hn b hb => by
  have okc := I4.ok
  refine ⟨hn b hb, (okc.exf b (by rw [eEx]; exact hb)).1, okc.exfs b (by rw [eEx]; exact hb), .inl (by rw [eEx]; exact hb), (okc.exf b (by rw [eEx]; exact hb)).2, fun q hq => ?_⟩
  rw [eN] at hq
  cases hq
 have loop : ∀ s₄ : Shared, s₄ = { s3 with heap := h₁, toks := s3.toks + ([] : List (Str × Value)).length } →
  codeAny (model X.prog X.w) X.A (.compLoop (.DictComp kx vx [⟨tg, iter, ifs, 0⟩] scope pos) 0 (.ref it) (.ref p) (compEnvC scope cl s3.heap.objs.size X.env))
   (fun r s' => r = .ok .next ∧ (∃ m, s'.heap.Ns s3.heap.objs.size m) ∧ ∃ v H', RelV v (.ref p) ∧ Inv X pins σ H' s' ∧ FpOk X pins H' s3.heap.objs.size ∧ Q v H') s₄ := by
  rintro s₄ rfl
  refine zfV (fun n s' => ∃ i σ' ys H', Inv X' [] σ' H' s' ∧ tn i s'.heap ∧ (∀ b ∈ fp, H' b = none) ∧ W i n σ' ys H') ?_ m0 ⟨0, _, [], _, I4, st4, fun b hb => (hf3 b hb).1, w0⟩
  rintro n s5 ⟨i, σ5, ys, H5, I5, st5, fr5, w5⟩
  obtain ⟨hp5, tu⟩ := turn i n σ5 ys H5 w5
  rcases tu with ⟨stop, qn⟩ | ⟨go, hz, step⟩
  · have D := T.done X' eP ew eK ec i [] s5 σ5 H5 (fun _ _ => False) I5 (stat fr5) st5 stop
    rw [eA] at D
    refine thn D fun r s6 ⟨hr, I6⟩ => ?_
    subst hr
    refine ⟨rfl, ?_, .ref p, H5, rfl, ?_, ?_, qn⟩
    · obtain ⟨m, hm, _⟩ := I6.loc
      rw [eE] at hm
      exact ⟨m, hm⟩
    · have b6 := I6.base
      have ho := I6.os
      have hk := I6.hok
      have hb := I6.bare
      subst hX
      exact I3.call' (ch := fp) ho b6 hk hb fun b hb' => ⟨(hf b hb').2.2.2.1, (hf b hb').2.1, (hf b hb').2.2.2.2.1, (hf b hb').2.2.2.2.2⟩
    · have fr := I6.free
      rw [eE] at fr
      exact I3.fpOk (Nat.le_refl _) fr
  · have D := T.item X' eP ew eK ec i [] s5 σ5 H5 (fun _ _ => False) I5 (stat fr5) st5 go
    rw [eA] at D
    refine thn D fun r s6 ⟨u, hr, h6⟩ => ?_
    subst hr
    refine thn h6 fun _ s7 ⟨x, H7, I7, r7, y7, st7, fr7⟩ => ?_
    have I7' := I7.pinned (stat fr7) (T.obj _ _ st7)
    have G := hg' _ s7 σ5 H7 x u _ I7' r7 (step x H7 y7)
    rw [eP, ew, eA, ex, eE] at G
    refine thn G fun _ s8 ⟨σ8, H8, I8, q8⟩ => ?_
    have Tt := ht' _ s8 σ8 H8 _ I8 q8
    rw [eP, ew, eA, ex, eE] at Tt
    refine thn Tt fun b s9 ⟨H9, I9, q9⟩ => ?_
    have again : ∀ {s' : Shared} {ys' : List (Key × V)} {H' : Hp}, Inv X' ([] ++ zaX fp s7.heap) σ8 H' s' → (∃ m', m' < n ∧ W (i + 1) m' σ8 ys' H') →
     ∃ m, m < n ∧ ∃ i σ' ys H', Inv X' [] σ' H' s' ∧ tn i s'.heap ∧ (∀ b ∈ fp, H' b = none) ∧ W i m σ' ys H' := fun {s' ys' H'} I' ⟨m', hm, w'⟩ => by
     refine ⟨m', hm, i + 1, σ8, ys', H', I'.unpinned, T.keep _ _ _ st7 fun b hb o e => (I'.pin (b, o) (List.mem_append_right _ (List.mem_append_right _ (zaB hb e)))).1, fun b hb => ?_, w'⟩
     obtain ⟨o, e, d⟩ := T.obj _ _ st7 b hb
     exact (I'.pin (b, o) (List.mem_append_right _ (List.mem_append_right _ (zaB hb e)))).2.1
    cases b with
    | false => exact again I9 q9
    | true =>
     have Ee := he' _ s9 σ8 H9 _ I9 q9
     rw [eP, ew, eA, ex, eE] at Ee
     show wpAny _ _ _ _ _ _
     refine thn Ee fun kv s10 ⟨kk, H10, I10, r10, q10⟩ => ?_
     have Ev := hv' _ s10 σ8 H10 _ I10 q10
     rw [eP, ew, eA, ex, eE] at Ev
     refine thn Ev fun vv s11 ⟨y, H11, I11, r11, ky, ek, hp11, q11⟩ => ?_
     subst ek
     obtain ⟨z0, hd0, vs0, rel0, dd0⟩ := zd5 I11.hok hp11
     have hz0 : vs0.length ≤ sizeLine := by rw [← rel0.length]; exact z0
     have hl0 : (putK ys ky y).length ≤ sizeLine := by have := zbz ys ky y; omega
     rw [eP, ew] at dd0
     refine wpAny_dictSet_pairs (hsz := hz0) (zgT r10) dd0 fun h' dd' hs' => ?_
     have he0 : ∃ q, h'.get? p = some q := let ⟨q, _, _, hq, _⟩ := dd'; ⟨q, hq⟩
     have I12 := zg0 (t' := s11.toks + 1) I11 (by rw [hp11]; exact True.intro) hs' he0 (zje hl0 hd0 (rel0.put ky r11) (by rw [eP, ew]; exact dd'))
     exact again I12 q11
 exact codeAny_compStart_dict (loop _ rfl) (T.self _ 0 _ _ _ st4 (loop _ rfl))
theorem zl6 (hc : X.calm = true) (ok : CapOk X N' js scope) (hi : PI X tg iter wi)
 (hg : ∀ cl C s₀ H₀ ex, PG (lcx X N' scope cl C s₀ H₀ ex) tg g) (ht : ∀ cl C s₀ H₀ ex, PIfs (lcx X N' scope cl C s₀ H₀ ex) ifs tc) (he : ∀ cl C s₀ H₀ ex, PE (lcx X N' scope cl C s₀ H₀ ex) kx tk) (hv : ∀ cl C s₀ H₀ ex, PE (lcx X N' scope cl C s₀ H₀ ex) vx tv)
 (hs : ∀ x, foldedSetIterable iter X.env x = pure x := by intro _; rfl) : PE X (.DictComp kx vx [⟨tg, iter, ifs, 0⟩] scope pos) (tDC wi js g tc tk tv) := by
 intro pins s σ H Q I h
 obtain ⟨cl, c1, c2, c3⟩ := zd9 (scope := scope) I.ok.has ok.free
 show wpAny _ X.A (comprehension (.DictComp kx vx [⟨tg, iter, ifs, 0⟩] scope pos) scope X.env _ newDict false (eval iter X.env)) _ _ s
 refine wpAny_comprehension_free (use := none) rfl hs c1 ok.kind ok.names (thn (hi pins s σ H _ I h) fun v s1 h1 => thn h1 fun itv s2 h2 => ?_)
 obtain ⟨it, fp, tn, J, H2, e, I2, T, st2, f2, hw⟩ := h2
 subst e
 refine wpAny_mono (zj9 (iter := iter) (pos := pos) hc ok c2 c3 hg ht he hv I2 T st2 f2 hw) (fun acc s3 h3 => wpAny_mono h3 (fun cenv s4 h4 => ?_) fun _ _ z => z) fun _ _ z => z
 refine codeAny_mono h4 fun r s5 h5 => ?_
 obtain ⟨rfl, ⟨m, hm⟩, v, H5, rv, I5, f5, q5⟩ := h5
 refine ⟨m, hm, fun h' sb => ?_⟩
 obtain ⟨f0, f1, _, f3, f4, f6⟩ := f5
 exact ⟨v, H5, I5.turned (t' := s5.toks) (fun b o hb e => (sb.2 b hb).trans e) f0 f1 f3 f4 f6, rv, q5⟩
end
section
variable {prog : Program} {w : World} {A : Around} {E : Value → Shared → Prop} {s : Shared}
theorem zgI {ti tp : Addr} {k : Nat} {vs : Array Value} {v : Value} {Q : Value → Shared → Prop} (hi : s.heap.IsTupleIter ti tp k) (ht : s.heap.IsTuple tp vs) (hv : vs[k]? = some v)
 (fin : ∀ g, g.IsTupleIter ti tp (k + 1) → Heap.SameBut ti s.heap g → Q v { s with heap := g }) : wpAny (model prog w) A (Builtin.SmallTypes.nextOf (.ref ti)) Q E s := by
 obtain ⟨oi, e1, c1, d1⟩ := id hi
 obtain ⟨ot, e2, _, nt, d2⟩ := ht
 unfold Builtin.SmallTypes.nextOf
 refine wpAny_bind (wpAny_callSpecial?_slot (name := Str.ofString "__next__") hi.typeIs PySem.F.slot_tuple_iterator_next (wpAny_call_entry PySem.F.slot_tuple_iterator_next hi.typeIs PySem.F.entry_tuple_iterator_next ?_ (PySem.F.args_tuple_iterator_next_1 _)))
 show wpAny _ _ (field (.ref ti) 0 >>= _) _ _ s
 refine wpAny_bind (wpAny_field e1 d1 (x := .ref tp) rfl ?_)
 show wpAny _ _ (if (Value.ref tp == Value.none) = true then _ else _) _ _ s
 rw [if_neg (show ¬ ((Value.ref tp == Value.none) = true) from Bool.false_ne_true)]
 show wpAny _ _ (field (.ref ti) 1 >>= _) _ _ s
 refine wpAny_bind (wpAny_field e1 d1 (x := .int k 0) rfl ?_)
 show wpAny _ _ (seqItems? (.ref tp) >>= _) _ _ s
 refine wpAny_bind (wpAny_seqItems e2 d2 ?_)
 simp only [Int.toNat_natCast, hv]
 refine wpAny_bind (wpAny_setField e1 d1 (by simp) (wpAny_pure ⟨v, rfl, wpAny_pure (fin _ ?_ (Heap.SameBut.update ..))⟩))
 exact ⟨_, Heap.get?_update_self _ e1 (Obj.isFreed_of_fields (Obj.data_mapFields d1 _)), (Obj.cls_mapFields ..).trans c1, by rw [Obj.data_mapFields d1]; simp [rawInt]⟩
theorem zkn {ti tp : Addr} {k : Nat} {vs : Array Value} {Q : Value → Shared → Prop} (hh : A.handled = none) (hi : s.heap.IsTupleIter ti tp k) (ht : s.heap.IsTuple tp vs) (hv : vs[k]? = none)
 (fin : ∀ g e, Heap.ExtBut ti s.heap g → (∃ o, g.get? e = some o ∧ o.cls = .type "StopIteration") → E (.ref e) { s with heap := g }) : wpAny (model prog w) A (Builtin.SmallTypes.nextOf (.ref ti)) Q E s := by
 obtain ⟨oi, e1, c1, d1⟩ := id hi
 obtain ⟨ot, e2, _, nt, d2⟩ := ht
 unfold Builtin.SmallTypes.nextOf
 refine wpAny_bind (wpAny_callSpecial?_slot (name := Str.ofString "__next__") hi.typeIs PySem.F.slot_tuple_iterator_next (wpAny_call_entry PySem.F.slot_tuple_iterator_next hi.typeIs PySem.F.entry_tuple_iterator_next ?_ (PySem.F.args_tuple_iterator_next_1 _)))
 show wpAny _ _ (field (.ref ti) 0 >>= _) _ _ s
 refine wpAny_bind (wpAny_field e1 d1 (x := .ref tp) rfl ?_)
 show wpAny _ _ (if (Value.ref tp == Value.none) = true then _ else _) _ _ s
 rw [if_neg (show ¬ ((Value.ref tp == Value.none) = true) from Bool.false_ne_true)]
 show wpAny _ _ (field (.ref ti) 1 >>= _) _ _ s
 refine wpAny_bind (wpAny_field e1 d1 (x := .int k 0) rfl ?_)
 show wpAny _ _ (seqItems? (.ref tp) >>= _) _ _ s
 refine wpAny_bind (wpAny_seqItems e2 d2 ?_)
 simp only [Int.toNat_natCast, hv]
 refine wpAny_bind (wpAny_rule (wpAny_bind (wpAny_setField e1 d1 (by simp) ?_)))
 show wpAny _ _ (newExc (.type "StopIteration") [] >>= _) _ _ _
 refine wpAny_bind ?_
 simp only [newExc, newTuple]
 refine wpAny_bind (wpAny_newObj_type ?_ (by size_fits))
 refine wpAny_bind (m := firstArgMember _ _) (wpAny_of_eq (a := Value.none) (by first | rfl | (simp only [firstArgMember]; rfl)) ?_)
 refine wpAny_newObj_type ?_ (by size_fits)
 simp only [raiseNew]
 refine wpAny_bind (wpAny_handled ?_)
 first | rw [show A.in1.handled = none from hh] | rw [hh]
 refine wpAny_bind (wpAny_pure (wpAny_throw ?_))
 exact fin _ _ (((Heap.SameBut.update ..).extBut.push _).push _) ⟨_, Heap.get?_push_size _ rfl, rfl⟩
structure ZA (z a b i j : Addr) : Prop where
 az : a ≠ z
 bz : b ≠ z
 iz : i ≠ z
 jz : j ≠ z
 ab : a ≠ b
 ai : a ≠ i
 aj : a ≠ j
 bi : b ≠ i
 bj : b ≠ j
 ij : i ≠ j
theorem zb1 {h h' : Heap} {t c : Addr} {vs : Array Value} (x : h.IsTuple t vs) (hs : Heap.SameBut c h h') (n : t ≠ c) : h'.IsTuple t vs := x.extBut hs.extBut n
theorem zkx {z a b i j t1 t2 : Addr} {k1 k2 : Nat} {xs ys : Array Value} {x y p q : Value} {Q : Value → Shared → Prop} (D : ZA z a b i j) (n1 : t1 ≠ z ∧ t1 ≠ b ∧ t1 ≠ i ∧ t1 ≠ j) (n2 : t2 ≠ z ∧ t2 ≠ b ∧ t2 ≠ i ∧ t2 ≠ j)
 (hz : IsZip s.heap z a b .none) (ha : IsPair s.heap a (.ref i) (.ref j)) (hb : IsPair s.heap b p q) (h1 : s.heap.IsTupleIter i t1 k1) (h2 : s.heap.IsTupleIter j t2 k2) (g1 : s.heap.IsTuple t1 xs) (g2 : s.heap.IsTuple t2 ys) (hx : xs[k1]? = some x) (hy : ys[k2]? = some y)
 (fin : ∀ g, IsZip g z a b (rawInt s.heap.objs.size) → IsPair g b x y → g.IsTupleIter i t1 (k1 + 1) → g.IsTupleIter j t2 (k2 + 1) → IsPair g s.heap.objs.size x y →
  (∀ c o, c ≠ z → c ≠ b → c ≠ i → c ≠ j → s.heap.get? c = some o → g.get? c = some o) → Q (.ref s.heap.objs.size) { s with heap := g }) :
 wpAny (model prog w) A (Builtin.«zip.__next__» ⟨[.ref z], []⟩) (fun r s' => ∃ v, r = .done (.ret v) ∧ Q v s') E s := by
 show wpAny _ _ (field (.ref z) 2 >>= _) _ _ _
 refine wpAny_bind (wpAny_field hz rfl (x := .bool false) rfl ?_)
 show wpAny _ _ (field (.ref z) 3 >>= _) _ _ _
 refine wpAny_bind (wpAny_field hz rfl (x := .ref a) rfl ?_)
 refine wpAny_bind (wpAny_seqItems ha rfl ?_)
 show wpAny _ _ (Builtin.SmallTypes.ownedTupleIsFree (.ref z) >>= _) _ _ _
 refine wpAny_bind ?_
 unfold Builtin.SmallTypes.ownedTupleIsFree
 refine wpAny_bind (wpAny_field hz rfl (x := .none) rfl (wpAny_pure ?_))
 simp only [if_true]
 refine wpAny_bind (wpAny_rule ?_)
 refine wpAny_bind (wpAny_field hz rfl (x := .ref b) rfl ?_)
 refine wpAny_bind (wpAny_setField_rec hz (by simp) fun w1 z1 m1 => ?_)
 replace z1 : IsZip w1 z a b .ellipsis := z1
 refine wpAny_bind ?_
 simp only [List.zipIdx_cons, List.zipIdx_nil, List.forIn_cons, List.forIn_nil]
 refine wpAny_bind (wpAny_bind (wpAny_onRaise ?_))
 show wpAny _ _ (Builtin.SmallTypes.nextOf (.ref i) >>= _) _ _ _
 refine wpAny_bind (zgI (h1.extBut m1.extBut D.iz) (zb1 g1 m1 n1.1) hx fun w2 i2 m2 => wpAny_pure ?_)
 have b2 : IsPair w2 b p q := m2.extBut _ _ D.bi (m1.extBut _ _ D.bz hb)
 refine wpAny_bind (wpAny_seqItems b2 rfl ?_)
 refine wpAny_bind (wpAny_updateSeq_pair b2 fun w3 b3 m3 => ?_)
 replace b3 : IsPair w3 b x q := b3
 refine wpAny_bind (wpAny_letGo (wpAny_pure ?_))
 refine wpAny_bind (wpAny_bind (wpAny_onRaise ?_))
 show wpAny _ _ (Builtin.SmallTypes.nextOf (.ref j) >>= _) _ _ _
 refine wpAny_bind (zgI (((h2.extBut m1.extBut D.jz).extBut m2.extBut D.ij.symm).extBut m3.extBut D.bj.symm) (zb1 (zb1 (zb1 g2 m1 n2.1) m2 n2.2.2.1) m3 n2.2.1) hy fun w4 j4 m4 => wpAny_pure ?_)
 have b4 : IsPair w4 b x q := m4.extBut _ _ D.bj b3
 refine wpAny_bind (wpAny_seqItems b4 rfl ?_)
 refine wpAny_bind (wpAny_updateSeq_pair b4 fun w5 b5 m5 => ?_)
 replace b5 : IsPair w5 b x y := b5
 refine wpAny_bind (wpAny_letGo (wpAny_pure (wpAny_pure ?_)))
 refine wpAny_bind (wpAny_seqItems b5 rfl ?_)
 refine wpAny_bind (wpAny_newTuple ?_)
 have sz : w5.objs.size = s.heap.objs.size := by rw [m5.1, m4.1, m3.1, m2.1, m1.1]
 have z5 : IsZip w5 z a b .ellipsis := m5.extBut _ _ D.bz.symm (m4.extBut _ _ D.jz.symm (m3.extBut _ _ D.bz.symm (m2.extBut _ _ D.iz.symm z1)))
 have k5 : ∀ c o, c ≠ z → c ≠ b → c ≠ i → c ≠ j → s.heap.get? c = some o → w5.get? c = some o := fun c o c1 c2 c3 c4 e =>
  m5.extBut _ _ c2 (m4.extBut _ _ c4 (m3.extBut _ _ c2 (m2.extBut _ _ c3 (m1.extBut _ _ c1 e))))
 have i5 : w5.IsTupleIter i t1 (k1 + 1) := ((i2.extBut m3.extBut D.bi.symm).extBut m4.extBut D.ij).extBut m5.extBut D.bi.symm
 have j5 : w5.IsTupleIter j t2 (k2 + 1) := j4.extBut m5.extBut D.bj.symm
 have zlt : z < w5.objs.size := Heap.lt_size z5
 show wpAny _ _ (Builtin.SmallTypes.ownedTupleHandOut (.ref z) (.ref w5.objs.size) >>= _) _ _ _
 refine wpAny_bind ?_
 unfold Builtin.SmallTypes.ownedTupleHandOut
 have z6 : IsZip (w5.push { cls := .type "tuple", data := .seq #[x, y] }) z a b .ellipsis := Heap.get?_push_of_some _ z5
 refine wpAny_bind (wpAny_setField_rec z6 (by simp) fun w7 z7 m7 => ?_)
 replace z7 : IsZip w7 z a b (rawInt w5.objs.size) := z7
 refine wpAny_setField_rec z7 (by simp) fun w8 z8 m8 => ?_
 replace z8 : IsZip w8 z a b (rawInt w5.objs.size) := z8
 have up : ∀ c o, c ≠ z → w5.get? c = some o → w8.get? c = some o := fun c o c1 e => m8.extBut _ _ c1 (m7.extBut _ _ c1 (Heap.get?_push_of_some _ e))
 have t8 : IsPair w8 w5.objs.size x y := m8.extBut _ _ (Nat.ne_of_gt zlt) (m7.extBut _ _ (Nat.ne_of_gt zlt) (Heap.get?_push_size _ rfl))
 rw [sz] at z8 t8
 refine wpAny_pure ⟨_, rfl, ?_⟩
 show Q (.ref w5.objs.size) _
 rw [sz]
 obtain ⟨oi, ei, ri⟩ := i5
 obtain ⟨oj, ej, rj⟩ := j5
 exact fin w8 z8 (up _ _ D.bz b5) ⟨oi, up _ oi D.iz ei, ri⟩ ⟨oj, up _ oj D.jz ej, rj⟩ t8 fun c o c1 c2 c3 c4 e => up c o c1 (k5 c o c1 c2 c3 c4 e)
theorem zk8 {z a b i j t1 t2 : Addr} {k1 k2 : Nat} {xs ys : Array Value} {p q : Value} {Q : Fin → Shared → Prop} (hh : A.handled = none) (D : ZA z a b i j) (n1 : t1 ≠ z ∧ t1 ≠ b ∧ t1 ≠ i ∧ t1 ≠ j) (n2 : t2 ≠ z ∧ t2 ≠ b ∧ t2 ≠ i ∧ t2 ≠ j)
 (hz : IsZip s.heap z a b .none) (ha : IsPair s.heap a (.ref i) (.ref j)) (hb : IsPair s.heap b p q) (h1 : s.heap.IsTupleIter i t1 k1) (h2 : s.heap.IsTupleIter j t2 k2) (g1 : s.heap.IsTuple t1 xs) (g2 : s.heap.IsTuple t2 ys) (hend : xs[k1]? = none ∨ ys[k2]? = none)
 (fin : ∀ g e, (∀ c o, c ≠ z → c ≠ b → c ≠ i → c ≠ j → s.heap.get? c = some o → g.get? c = some o) → (∃ o, g.get? e = some o ∧ o.cls = .type "StopIteration") → E (.ref e) { s with heap := g }) :
 wpAny (model prog w) A (Builtin.«zip.__next__» ⟨[.ref z], []⟩) Q E s := by
 show wpAny _ _ (field (.ref z) 2 >>= _) _ _ _
 refine wpAny_bind (wpAny_field hz rfl (x := .bool false) rfl ?_)
 show wpAny _ _ (field (.ref z) 3 >>= _) _ _ _
 refine wpAny_bind (wpAny_field hz rfl (x := .ref a) rfl ?_)
 refine wpAny_bind (wpAny_seqItems ha rfl ?_)
 show wpAny _ _ (Builtin.SmallTypes.ownedTupleIsFree (.ref z) >>= _) _ _ _
 refine wpAny_bind ?_
 unfold Builtin.SmallTypes.ownedTupleIsFree
 refine wpAny_bind (wpAny_field hz rfl (x := .none) rfl (wpAny_pure ?_))
 simp only [if_true]
 refine wpAny_bind (wpAny_rule ?_)
 refine wpAny_bind (wpAny_field hz rfl (x := .ref b) rfl ?_)
 refine wpAny_bind (wpAny_setField_rec hz (by simp) fun w1 z1 m1 => ?_)
 replace z1 : IsZip w1 z a b .ellipsis := z1
 refine wpAny_bind ?_
 simp only [List.zipIdx_cons, List.zipIdx_nil, List.forIn_cons, List.forIn_nil]
 refine wpAny_bind (wpAny_bind (wpAny_onRaise ?_))
 show wpAny _ _ (Builtin.SmallTypes.nextOf (.ref i) >>= _) _ _ _
 cases hx : xs[k1]? with
 | none =>
  refine wpAny_bind (zkn hh (h1.extBut m1.extBut D.iz) (zb1 g1 m1 n1.1) hx fun w2 e m2 he => ?_)
  obtain ⟨oe, e1, e2⟩ := he
  have z2 : IsZip w2 z a b .ellipsis := m2 _ _ D.iz.symm z1
  have ez : e ≠ z := fun u => by subst u; rw [z2] at e1; cases e1; simp at e2
  exact wpAny_setField_rec z2 (by simp) fun w3 _ m3 => fin w3 e (fun c o c1 _ c3 _ u => m3.extBut _ _ c1 (m2 _ _ c3 (m1.extBut _ _ c1 u))) ⟨oe, m3.extBut _ _ ez e1, e2⟩
 | some x =>
  have hy : ys[k2]? = none := by
   rcases hend with u | u
   · rw [hx] at u; cases u
   · exact u
  refine wpAny_bind (zgI (h1.extBut m1.extBut D.iz) (zb1 g1 m1 n1.1) hx fun w2 i2 m2 => wpAny_pure ?_)
  have b2 : IsPair w2 b p q := m2.extBut _ _ D.bi (m1.extBut _ _ D.bz hb)
  refine wpAny_bind (wpAny_seqItems b2 rfl ?_)
  refine wpAny_bind (wpAny_updateSeq_pair b2 fun w3 b3 m3 => ?_)
  refine wpAny_bind (wpAny_letGo (wpAny_pure ?_))
  refine wpAny_bind (wpAny_bind (wpAny_onRaise ?_))
  show wpAny _ _ (Builtin.SmallTypes.nextOf (.ref j) >>= _) _ _ _
  refine wpAny_bind (zkn hh (((h2.extBut m1.extBut D.jz).extBut m2.extBut D.ij.symm).extBut m3.extBut D.bj.symm) (zb1 (zb1 (zb1 g2 m1 n2.1) m2 n2.2.2.1) m3 n2.2.1) hy fun w4 e m4 he => ?_)
  obtain ⟨oe, e1, e2⟩ := he
  have z4 : IsZip w4 z a b .ellipsis := m4 _ _ D.jz.symm (m3.extBut _ _ D.bz.symm (m2.extBut _ _ D.iz.symm z1))
  have ez : e ≠ z := fun u => by subst u; rw [z4] at e1; cases e1; simp at e2
  exact wpAny_setField_rec z4 (by simp) fun w5 _ m5 => fin w5 e (fun c o c1 c2 c3 c4 u => m5.extBut _ _ c1 (m4 _ _ c4 (m3.extBut _ _ c2 (m2.extBut _ _ c3 (m1.extBut _ _ c1 u))))) ⟨oe, m5.extBut _ _ ez e1, e2⟩
end
section
variable {X : Cx} {pins : List (Addr × Obj)} {σ : St} {H : Hp} {s : Shared} {h' : Heap}
theorem Inv.newTup {T : Addr} {x y : V} {t' : Nat} (I : Inv X pins σ H s) (ch : List Addr) (hch : ∀ c ∈ ch, FpOk X pins H c) (keep : ∀ c o, c ∉ ch → s.heap.get? c = some o → h'.get? c = some o) (hT : s.heap.objs.size ≤ T)
 (tup : ∃ its : List Value, Vals [x, y] its ∧ IsTupP h' T its.toArray) : Inv X pins σ (upd H T (.tup [x, y])) { s with heap := h', toks := t' } := by
 have hn : H T = none := I.hok.fresh hT
 have neT : ∀ c o, s.heap.get? c = some o → c ≠ T := fun c o e => Nat.ne_of_lt (Nat.lt_of_lt_of_le (Heap.lt_size e) hT)
 have off : ∀ c u, H c = some u → c ∉ ch := fun c u e z => by rw [(hch c z).1] at e; cases e
 refine I.step (g' := s.gens) (d' := s.drawn) (ch := ch) (fun c hc => ⟨(hch c hc).2.2.2.1, (hch c hc).2.1, (hch c hc).2.2.2.2.1, (hch c hc).2.2.2.2.2⟩) (fun c o _ _ hc e _ => keep c o hc e) (fun c o _ _ hc e _ => ⟨o.slots, keep c o hc e⟩)
  (fun c o _ e n => by rw [zan (neT c o e)]; exact n) (fun c o hc e => ⟨o, keep c o hc e⟩) (fun c xs e => by rw [zan (zaz e hn)]; exact e) (fun c o u e => by rw [zan (zaz e hn)]; exact e)
  (fun c ps e => ⟨#[], by rw [zan (zaz e hn), e]; simp⟩) (fun m hm => ?_) (fun c u e => ?_) I.bare
 · obtain ⟨o, es, ep, ho, r⟩ := hm
   exact ⟨o, es, ep, keep _ o (fun z => (hch _ z).2.1 rfl) ho, r⟩
 · by_cases hc : c = T
   · subst hc
     rw [zab] at e
     cases e
     obtain ⟨its, r, p⟩ := tup
     exact ⟨by show 2 ≤ sizeLine; decide, its, r, p⟩
   · rw [zan hc] at e
     refine (I.hok c u e).stay (fun d v hd q => keep d v ?_ q) (fun d q => by rw [zan (zaz q hn)]; exact q) fun d xs q => by rw [zan (zaz q hn)]; exact q
     rcases hd with z | z
     · rw [z]; exact off c u e
     · exact off d _ z
theorem Inv.turnedN {t' : Nat} (I : Inv X pins σ H s) (ch : List Addr) (hch : ∀ c ∈ ch, FpOk X pins H c) (keep : ∀ c o, c ∉ ch → s.heap.get? c = some o → h'.get? c = some o) : Inv X pins σ H { s with heap := h', toks := t' } := by
 have off : ∀ c u, H c = some u → c ∉ ch := fun c u e z => by rw [(hch c z).1] at e; cases e
 refine I.step (g' := s.gens) (d' := s.drawn) (ch := ch) (fun c hc => ⟨(hch c hc).2.2.2.1, (hch c hc).2.1, (hch c hc).2.2.2.2.1, (hch c hc).2.2.2.2.2⟩) (fun c o _ _ hc e _ => keep c o hc e) (fun c o _ _ hc e _ => ⟨o.slots, keep c o hc e⟩)
  (fun c o _ e n => n) (fun c o hc e => ⟨o, keep c o hc e⟩) (fun c xs e => e) (fun c o u e => e) (fun c ps e => ⟨#[], by rw [e]; simp⟩) (fun m hm => ?_) (fun c u e => ?_) I.bare
 · obtain ⟨o, es, ep, ho, r⟩ := hm
   exact ⟨o, es, ep, keep _ o (fun z => (hch _ z).2.1 rfl) ho, r⟩
 · refine (I.hok c u e).stay (fun d v hd q => keep d v ?_ q) (fun _ q => q) fun _ _ q => q
   rcases hd with z | z
   · rw [z]; exact off c u e
   · exact off d _ z
theorem zbq {t c : Addr} {xs : List V} (I : Inv X pins σ H s) (h : SqT X.K H t xs) (f : FpOk X pins H c) : t ≠ c := by
 intro e
 subst e
 rcases h with (h | ⟨o, h⟩) | ⟨o, its, n, hk, _⟩
 · rw [f.1] at h; cases h
 · rw [f.1] at h; cases h
 · have eb := I.ok.mod.kin t o hk
   rcases f.2.2.2.1 with z | z
   · exact I.ok.noex t o eb z
   · exact absurd (Nat.lt_of_lt_of_le (Heap.lt_size eb) (Nat.le_trans I.ok.bsz z)) (Nat.lt_irrefl _)
end
def Itz (K : PySem.W.Frag) (t1 t2 : Addr) : It :=
 ⟨fun k H => ∃ (xs ys : List V) (x y : V), SqT K H t1 xs ∧ SqT K H t2 ys ∧ xs[k]? = some x ∧ ys[k]? = some y,
  fun k H v H' => ∃ p, v = .ref p ∧ H p = none ∧ ∀ (xs ys : List V) (x y : V), SqT K H t1 xs → SqT K H t2 ys → xs[k]? = some x → ys[k]? = some y → H' = upd H p (.tup [x, y]),
  fun k H => ∃ (xs ys : List V), SqT K H t1 xs ∧ SqT K H t2 ys ∧ (xs.length ≤ k ∨ ys.length ≤ k)⟩
theorem zjA {P : Program} {w : World} {K : PySem.W.Frag} {es : List Expr} {kk : Nat} {pos : Pos} (t1 t2 z a b i j : Addr) (D : ZA z a b i j) :
 Turn P w K (.Tuple es kk pos) (Itz K t1 t2) [z, a, b, i, j] z (fun k h => IsZip h z a b .none ∧ IsPair h a (.ref i) (.ref j) ∧ (∃ p q, IsPair h b p q) ∧ h.IsTupleIter i t1 k ∧ h.IsTupleIter j t2 k) where
 mem := by simp
 obj := fun k h st c hc => by
  obtain ⟨hz, ha, ⟨p, q, hb⟩, ⟨oi, ei, _, di⟩, ⟨oj, ej, _, dj⟩⟩ := st
  simp only [List.mem_cons, List.not_mem_nil, or_false] at hc
  rcases hc with rfl | rfl | rfl | rfl | rfl
  · exact ⟨_, hz, fun v e => by cases e⟩
  · exact ⟨_, ha, fun v e => by cases e⟩
  · exact ⟨_, hb, fun v e => by cases e⟩
  · exact ⟨oi, ei, fun v e => by rw [di] at e; cases e⟩
  · exact ⟨oj, ej, fun v e => by rw [dj] at e; cases e⟩
 keep := fun k h h' st kp => by
  obtain ⟨hz, ha, ⟨p, q, hb⟩, ⟨oi, ei, ri⟩, ⟨oj, ej, rj⟩⟩ := st
  exact ⟨kp z (by simp) _ hz, kp a (by simp) _ ha, ⟨p, q, kp b (by simp) _ hb⟩, ⟨oi, kp i (by simp) _ ei, ri⟩, ⟨oj, kp j (by simp) _ ej, rj⟩⟩
 item := by
  intro X hP hw hK hc k pins s σ H E I hf st hg
  subst hP hw hK
  obtain ⟨xs, ys, x, y, q1, q2, hx, hy⟩ := hg
  obtain ⟨hz, ha, ⟨p, q, hb⟩, h1, h2⟩ := st
  obtain ⟨its1, r1, g1, _⟩ := I.tuple q1
  obtain ⟨its2, r2, g2, _⟩ := I.tuple q2
  obtain ⟨u1, hu1, v1⟩ := r1.get hx
  obtain ⟨u2, hu2, v2⟩ := r2.get hy
  have fz := hf z (by simp)
  have fb := hf b (by simp)
  have fi := hf i (by simp)
  have fj := hf j (by simp)
  have hT : s.TypeIs (.ref z) "zip" := ⟨_, hz, rfl⟩
  unfold pyNext
  refine wpAny_bind (wpAny_attempt (wpAny_callSpecial?_slot (name := Str.ofString "__next__") hT PySem.F.slot_zip_next (wpAny_call_entry PySem.F.slot_zip_next hT PySem.F.entry_zip_next
   (zkx D ⟨zbq I q1 fz, zbq I q1 fb, zbq I q1 fi, zbq I q1 fj⟩ ⟨zbq I q2 fz, zbq I q2 fb, zbq I q2 fi, zbq I q2 fj⟩ hz ha hb h1 h2 g1 g2 (by simpa using hu1) (by simpa using hu2) fun g a1 a2 a3 a4 a5 a6 => wpAny_pure ?_) (PySem.F.args_zip_next_1 _))))
  refine ⟨_, rfl, wpAny_letOwnedTupleGo_zip a1 fun g' z' m' => ?_⟩
  have zT : z ≠ s.heap.objs.size := Nat.ne_of_lt (Heap.lt_size hz)
  have up : ∀ c o, c ≠ z → g.get? c = some o → g'.get? c = some o := fun c o hc e => m'.extBut c o hc e
  have fr : H s.heap.objs.size = none := I.hok.fresh (Nat.le_refl _)
  have I1 : Inv X pins σ (upd H s.heap.objs.size (.tup [x, y])) { s with heap := g' } := by
   refine I.newTup (t' := s.toks) [z, b, i, j] (fun c hc => ?_) (fun c o hc e => ?_) (Nat.le_refl _) ⟨[u1, u2], .cons v1 (.cons v2 .nil), _, up _ _ zT.symm a5, rfl, rfl, _, rfl⟩
   · simp only [List.mem_cons, List.not_mem_nil, or_false] at hc
     rcases hc with rfl | rfl | rfl | rfl
     · exact fz
     · exact fb
     · exact fi
     · exact fj
   · simp only [List.mem_cons, List.not_mem_nil, or_false, not_or] at hc
     exact up c o hc.1 (a6 c o hc.1 hc.2.1 hc.2.2.1 hc.2.2.2 e)
  obtain ⟨oi, ei, ri⟩ := a3
  obtain ⟨oj, ej, rj⟩ := a4
  refine ⟨.ref s.heap.objs.size, _, I1, rfl, ⟨_, rfl, fr, fun xs' ys' x' y' s1 s2 e1 e2 => ?_⟩, ⟨z', up _ _ D.az (a6 a _ D.az D.ab D.ai D.aj ha), ⟨_, _, up _ _ D.bz a2⟩, ⟨oi, up _ _ D.iz ei, ri⟩, ⟨oj, up _ _ D.jz ej, rj⟩⟩, fun c hc => ?_⟩
  · rw [I.tuple_inj s1 q1, hx] at e1
    rw [I.tuple_inj s2 q2, hy] at e2
    cases e1
    cases e2
    rfl
  · have fc := hf c hc
    have : c ≠ s.heap.objs.size := by
     simp only [List.mem_cons, List.not_mem_nil, or_false] at hc
     obtain ⟨oi', ei', _⟩ := h1
     obtain ⟨oj', ej', _⟩ := h2
     rcases hc with rfl | rfl | rfl | rfl | rfl
     · exact zT
     · exact Nat.ne_of_lt (Heap.lt_size ha)
     · exact Nat.ne_of_lt (Heap.lt_size hb)
     · exact Nat.ne_of_lt (Heap.lt_size ei')
     · exact Nat.ne_of_lt (Heap.lt_size ej')
    rw [zan this]
    exact fc.1
 done := by
  intro X hP hw hK hc k pins s σ H E I hf st hg
  subst hP hw hK
  obtain ⟨xs, ys, q1, q2, hend⟩ := hg
  obtain ⟨hz, ha, ⟨p, q, hb⟩, h1, h2⟩ := st
  obtain ⟨its1, r1, g1, _⟩ := I.tuple q1
  obtain ⟨its2, r2, g2, _⟩ := I.tuple q2
  have l1 := r1.length
  have l2 := r2.length
  have fz := hf z (by simp)
  have fb := hf b (by simp)
  have fi := hf i (by simp)
  have fj := hf j (by simp)
  have hT : s.TypeIs (.ref z) "zip" := ⟨_, hz, rfl⟩
  unfold pyNext
  refine wpAny_bind (wpAny_attempt (wpAny_callSpecial?_slot (name := Str.ofString "__next__") hT PySem.F.slot_zip_next (wpAny_call_entry PySem.F.slot_zip_next hT PySem.F.entry_zip_next
   (zk8 (I.ok.hd hc) D ⟨zbq I q1 fz, zbq I q1 fb, zbq I q1 fi, zbq I q1 fj⟩ ⟨zbq I q2 fz, zbq I q2 fb, zbq I q2 fi, zbq I q2 fj⟩ hz ha hb h1 h2 g1 g2 ?_ fun g e kp he => ?_) (PySem.F.args_zip_next_1 _))))
  · rcases hend with u | u
    · exact .inl (by simp; omega)
    · exact .inr (by simp; omega)
  · obtain ⟨o, ho, hcl⟩ := he
    refine wpAny_bind (wpAny_isInstance (T := "StopIteration") (b := true) ⟨o, ho, hcl⟩ isSubtype_stop ?_)
    refine wpAny_pure ⟨rfl, I.turnedN (t' := s.toks) [z, b, i, j] (fun c hc => ?_) (fun c o hc e => ?_)⟩
    · simp only [List.mem_cons, List.not_mem_nil, or_false] at hc
      rcases hc with rfl | rfl | rfl | rfl
      · exact fz
      · exact fb
      · exact fi
      · exact fj
    · simp only [List.mem_cons, List.not_mem_nil, or_false, not_or] at hc
      exact kp c o hc.1 hc.2.1 hc.2.2.1 hc.2.2.2 e
 self := fun _ _ _ _ _ st h => wpAny_pyIter_zip st.1 h
abbrev zw1 (h : Heap) (t : Addr) : Heap := h.push { cls := .type "tuple_iterator", data := .fields #[.ref t, .int 0 0] }
abbrev zw2 (h : Heap) (t u : Addr) : Heap := (zw1 h t).push { cls := .type "tuple_iterator", data := .fields #[.ref u, .int 0 0] }
abbrev zw3 (h : Heap) (t u : Addr) : Heap := (zw2 h t u).push { cls := .type "tuple", data := .seq #[.ref h.objs.size, .ref (zw1 h t).objs.size] }
abbrev zw4 (h : Heap) (t u : Addr) : Heap := (zw3 h t u).push { cls := .type "tuple", data := .seq #[.none, .none] }
abbrev zw5 (h : Heap) (t u : Addr) : Heap := (zw4 h t u).push { cls := .type "zip", data := .fields #[.none, .bool false, .bool false, .ref (zw2 h t u).objs.size, .ref (zw3 h t u).objs.size] }
theorem zk7 (t u : Addr) (xs ys : Array Value) : Meets (Builtin.«zip.__new__» ⟨[.type "zip", .ref t, .ref u], []⟩) (fun _ R s => s.heap.IsTuple t xs ∧ s.heap.IsTuple u ys ∧
 R (.ok (.ret (.ref (zw4 s.heap t u).objs.size))) { s with heap := zw5 s.heap t u }) :=
 .of_wp fun prog w A R s h => by
  obtain ⟨hp, g, d, tk, os⟩ := s; obtain ⟨g1, g2, h⟩ := h
  have f0 := sub_zip
  have f1 : Heap.IsTuple (Shared.heap ⟨hp, g, d, tk, os⟩) t xs := g1
  have f2 : Heap.IsTuple (Shared.heap ⟨hp.push { cls := .type "tuple_iterator", data := .fields #[.ref t, .int 0 0] }, g, d, tk, os⟩) u ys := Heap.IsTuple.push g2 _
  wp_walk using wpAny_pyIter_tuple f1, wpAny_pyIter_tuple f2
  exact ⟨_, rfl, h⟩
theorem zlO : bootBuiltins "zip" = some (.type "zip") := by decide +kernel
section
variable {X : Cx}
def iZip (K : PySem.W.Frag) (ta : TA) : TI := fun σ H R => ta σ H fun vs H1 => ∃ t u, vs = [.ref t, .ref u] ∧ (∃ xs, SqT K H1 t xs) ∧ (∃ ys, SqT K H1 u ys) ∧ R (Itz K t u) H1
theorem zlq {es : List Expr} {kk : Nat} {tpos : Pos} {a b : Expr} {ta : TA} {p pos : Pos} (hg : Gl X "zip") (hm : X.mg "zip" = none) (ha : PA X [a, b] ta)
 (he : starEach [a, b] X.env = (false, eval a X.env) :: starEach [b] X.env := by rfl) (hpl : (backTo pos (starEach [b] X.env)).any (·.1) = false := by rfl) :
 PI X (.Tuple es kk tpos) (.Call (.Name "zip" p) [a, b] [] pos) (iZip X.K ta) := by
 intro pins s σ H R I h
 refine wpAny_Call_Name_kw (zc6 I hg hm zlO ?_ (by decide) (by decide))
 refine PyProof.Rows.callWith_type1 (thn (ha pos pins s σ H _ I h) fun us s1 ⟨vs, H1, I1, r1, t, u, e, ⟨xs, q1⟩, ⟨ys, q2⟩, q⟩ => ?_) he hpl
 subst e
 obtain ⟨u1, u2, rfl, v1, v2⟩ := zhw r1
 cases v1
 cases v2
 obtain ⟨its1, rv1, g1, _⟩ := I1.tuple q1
 obtain ⟨its2, rv2, g2, _⟩ := I1.tuple q2
 refine callType_new PySem.F.called_zip (by decide) (PySem.F.typeCall_zip_2 _ _) (PySem.F.newCall_zip_2 _ _) (fun obj => PySem.F.args_object_init_3 obj _ _) PySem.F.entry_zip_new (zk7 t u its1.toArray its2.toArray) ⟨g1, g2, ?_⟩
 have y1 : (zw1 s1.heap t).objs.size = s1.heap.objs.size + 1 := Heap.size_push ..
 have y2 : (zw2 s1.heap t u).objs.size = s1.heap.objs.size + 2 := by rw [Heap.size_push, y1]
 have y3 : (zw3 s1.heap t u).objs.size = s1.heap.objs.size + 3 := by rw [Heap.size_push, y2]
 have y4 : (zw4 s1.heap t u).objs.size = s1.heap.objs.size + 4 := by rw [Heap.size_push, y3]
 have k5 : ∀ c o, s1.heap.get? c = some o → (zw5 s1.heap t u).get? c = some o := fun c o e => Heap.get?_push_of_some _ (Heap.get?_push_of_some _ (Heap.get?_push_of_some _ (Heap.get?_push_of_some _ (Heap.get?_push_of_some _ e))))
 have e5 : (zw5 s1.heap t u).get? (zw4 s1.heap t u).objs.size = some _ := Heap.get?_push_size _ rfl
 have e4 : (zw5 s1.heap t u).get? (zw3 s1.heap t u).objs.size = some _ := Heap.get?_push_of_some _ (Heap.get?_push_size _ rfl)
 have e3 : (zw5 s1.heap t u).get? (zw2 s1.heap t u).objs.size = some _ := Heap.get?_push_of_some _ (Heap.get?_push_of_some _ (Heap.get?_push_size _ rfl))
 have e2 : (zw5 s1.heap t u).get? (zw1 s1.heap t).objs.size = some _ := Heap.get?_push_of_some _ (Heap.get?_push_of_some _ (Heap.get?_push_of_some _ (Heap.get?_push_size _ rfl)))
 have e1 : (zw5 s1.heap t u).get? s1.heap.objs.size = some _ := Heap.get?_push_of_some _ (Heap.get?_push_of_some _ (Heap.get?_push_of_some _ (Heap.get?_push_of_some _ (Heap.get?_push_size _ rfl))))
 have I2 : Inv X pins σ H1 { s1 with heap := zw5 s1.heap t u } := I1.kept (t' := s1.toks) k5
 have fp : ∀ c, s1.heap.objs.size ≤ c → FpOk X pins H1 c := fun c hc => I1.fpOk hc (I1.hok.fresh hc)
 have D : ZA (zw4 s1.heap t u).objs.size (zw2 s1.heap t u).objs.size (zw3 s1.heap t u).objs.size s1.heap.objs.size (zw1 s1.heap t).objs.size := by
  have n4 : (zw3 s1.heap t u).objs.size < (zw4 s1.heap t u).objs.size := by rw [y3, y4]; exact Nat.lt_succ_self _
  have n3 : (zw2 s1.heap t u).objs.size < (zw3 s1.heap t u).objs.size := by rw [y2, y3]; exact Nat.lt_succ_self _
  have n2 : (zw1 s1.heap t).objs.size < (zw2 s1.heap t u).objs.size := by rw [y1, y2]; exact Nat.lt_succ_self _
  have n1 : s1.heap.objs.size < (zw1 s1.heap t).objs.size := by rw [y1]; exact Nat.lt_succ_self _
  exact ⟨Nat.ne_of_lt (Nat.lt_trans n3 n4), Nat.ne_of_lt n4, Nat.ne_of_lt (Nat.lt_trans n1 (Nat.lt_trans n2 (Nat.lt_trans n3 n4))), Nat.ne_of_lt (Nat.lt_trans n2 (Nat.lt_trans n3 n4)), Nat.ne_of_lt n3, Nat.ne_of_gt (Nat.lt_trans n1 n2), Nat.ne_of_gt n2,
   Nat.ne_of_gt (Nat.lt_trans n1 (Nat.lt_trans n2 n3)), Nat.ne_of_gt (Nat.lt_trans n2 n3), Nat.ne_of_lt n1⟩
 refine ⟨⟨_, e5, rfl⟩, wpAny_pyIter_zip e5 ?_⟩
 refine ⟨_, _, _, _, H1, rfl, I2, zjA t u _ _ _ _ _ D, ⟨e5, e3, ⟨_, _, e4⟩, ⟨_, e1, rfl, rfl⟩, ⟨_, e2, rfl, rfl⟩⟩, fun c hc => fp c ?_, q⟩
 simp only [List.mem_cons, List.not_mem_nil, or_false] at hc
 rcases hc with rfl | rfl | rfl | rfl | rfl
 · rw [y4]; exact Nat.le_add_right _ _
 · rw [y2]; exact Nat.le_add_right _ _
 · rw [y3]; exact Nat.le_add_right _ _
 · exact Nat.le_refl _
 · rw [y1]; exact Nat.le_add_right _ _
end
section
variable {X : Cx} {tg iter kx vx : Expr} {ifs : List Expr} {wi : TI} {js : Cap} {g : TG} {tc : TT} {tk tv : TE} {N' : List Str} {scope : Scope} {pos : Pos}
end
section
variable {prog : Program} {w : World} {A : Around} {E : Value → Shared → Prop} {s : Shared}
theorem zjl {t sl : Addr} {items : Array Value} {vl vu : Value} {lo hi : Option Int} {Q : Value → Shared → Prop} (ht : IsTup s.heap t items) (hs : s.heap.IsSliceOf sl vl vu .none) (pl : IsPart vl lo) (pu : IsPart vu hi)
 (h0 : HT.sIx items.size 0 lo = 0) (h1 : HT.sIx items.size items.size hi = items.size) (h : Q (.ref t) s) : wpAny (model prog w) A (getItem (.ref t) (.ref sl)) Q E s := by
 obtain ⟨os, hos, hcs, hds⟩ := id hs
 have hTs : s.TypeIs (.ref sl) "slice" := ⟨os, hos, hcs⟩
 unfold getItem
 try with_reducible refine wpAny_holding ?_
 first | refine wpAny_bind (wpAny_pure ?_) | skip
 refine wpAny_bind (wpAny_sequenceKey ht.typeIs (by decide) ?_)
 refine wpAny_bind (wpAny_callSpecial?_slot (name := Str.ofString "__getitem__") ht.typeIs PyProof.Rows.slot_tuple_getitem
  (wpAny_call_entry PyProof.Rows.slot_tuple_getitem ht.typeIs PySem.F.entry_tuple_getitem ?_ (PySem.F.args_tuple_getitem_2 _ _)))
 show wpAny _ _ (Builtin.Tuple.tupleItemsOf (.ref t) >>= _) _ _ s
 refine wpAny_bind (tupleItemsOf_ ht ?_)
 refine wpAny_bind (wpAny_typeOf hTs ?_)
 rw [if_pos (by decide)]
 refine wpAny_bind (HT.sliceApplied_gen hs pl pu ?_)
 have yes : ((((HT.sIx items.size 0 lo : Nat) : Int) == 0 && (1 : Int) == 1 && (HT.sIx items.size items.size hi - HT.sIx items.size 0 lo) == items.size) = true) := by
  rw [h0, h1]
  simp
 show wpAny _ _ (if (((HT.sIx items.size 0 lo : Nat) : Int) == 0 && (1 : Int) == 1 && (HT.sIx items.size items.size hi - HT.sIx items.size 0 lo) == items.size) = true then _ else _) _ _ s
 rw [if_pos yes]
 unfold Builtin.Tuple.tupleIsExact
 refine wpAny_bind (wpAny_bind (wpAny_typeOf ht.typeIs (wpAny_pure ?_)))
 rw [if_pos (by decide)]
 exact wpAny_bind (wpAny_rule (wpAny_pure ⟨_, rfl, wpAny_pure h⟩))
end
section
variable {X : Cx}
def rSlW (K : PySem.W.Frag) : V → Option Int → Option Int → Hp → VK → Prop := fun x lo hi H Q => ∃ a xs, x = .ref a ∧ SqT K H a xs ∧
 (HT.sIx xs.length 0 lo = 0 ∧ HT.sIx xs.length xs.length hi = xs.length → Q (.ref a) H) ∧
 (¬ (HT.sIx xs.length 0 lo = 0 ∧ HT.sIx xs.length xs.length hi = xs.length) → ∀ p, H p = none → Q (.ref p) (upd H p (.tup (cutV xs lo hi))))
theorem zil : SlR X (rSlW X.K) := by
 intro pins s σ H x v vl vu lo hi sl Q I rx hs pl pu h
 obtain ⟨a, xs, rfl, hx, q1, q2⟩ := h
 by_cases hw : HT.sIx xs.length 0 lo = 0 ∧ HT.sIx xs.length xs.length hi = xs.length
 · cases rx
   obtain ⟨its, r, ht, hz⟩ := I.tuple hx
   have hlen : its.toArray.size = xs.length := by rw [List.size_toArray]; exact r.length.symm
   refine ⟨"tuple", _, PyProof.Rows.slot_tuple_getitem.lookup, ht.typeIs, ?_⟩
   exact zjl ht hs pl pu (by rw [hlen]; exact hw.1) (by rw [hlen]; exact hw.2) ⟨.ref a, H, I, rfl, q1 hw⟩
 · exact zli pins s σ H (.ref a) v vl vu lo hi sl Q I rx hs pl pu ⟨a, xs, rfl, hx, hw, q2 hw⟩
theorem zkF {K : PySem.W.Frag} {H : Hp} {a : Addr} {xs : List V} {Q : VK} (h : SqT K H a xs) (q : ∀ p H', Same H H' → SqT K H' p (xs.drop 1) → Q (.ref p) H') : rSlW K (.ref a) (some 1) none H Q := by
 have e0 : HT.sIx xs.length 0 (some 1) = min 1 xs.length := HT.sIx_nat _ _ 1
 refine ⟨a, xs, rfl, h, fun hw => ?_, fun hw p hp => ?_⟩
 · rw [e0] at hw
   have hl : xs.length = 0 := by omega
   have hx : xs = [] := List.length_eq_zero_iff.mp hl
   subst hx
   exact q a H (Same.refl _) h
 · refine q p _ (zae hp _) (SqT.of ?_)
   rw [zab]
   unfold cutV
   rw [e0, show HT.sIx xs.length xs.length none = xs.length from rfl]
   cases xs with
   | nil => rfl
   | cons x r =>
    have e1 : min 1 (x :: r).length = 1 := by rw [List.length_cons]; omega
    rw [e1]
    congr 2
    rw [List.length_cons, Nat.add_sub_cancel]
    exact List.take_of_length_le (by simp)
end
section
variable {X : Cx} {K : PySem.W.Frag}
theorem zdn (K : PySem.W.Frag) (h : X.K = K) : IxR X (rIxT K) := by subst h; exact za9
theorem zeO (K : PySem.W.Frag) (h : X.K = K) {es : List Expr} {k : Nat} {t : TGs} {n : Nat} {pos : Pos} (hc : X.calm = true) (hg : PGs X es t)
 (hn : (assignEach es X.env).length = n := by rfl) (hst : (assignEach es X.env).findIdx? (·.1) = none := by rfl) : PG X (.Tuple es k pos) (gTup K n t) := by subst h; exact zcf hc hg hn hst
end
theorem zlz {K : PySem.W.Frag} {t1 t2 p : Addr} {xs ys : List V} {g : TG} {tc : TT} {te : TE} {σ : St} {H : Hp} {Q : VK} {js : Cap} {n : Nat} (h1 : n ≤ xs.length) (h2 : n ≤ ys.length) (h3 : xs.length ≤ n ∨ ys.length ≤ n) (Pv : Nat → St → List V → Hp → Prop) (h0 : Pv 0 (inn js σ) [] (upd H p (.lst [])))
 (hl : ∀ i σ zs H, i ≤ n → Pv i σ zs H → SqT K H t1 xs ∧ SqT K H t2 ys ∧ H p = some (.lst zs) ∧ zs.length < sizeLine)
 (hs : ∀ (i : Nat) x y σ zs H q (N : St → List V → Hp → Prop), xs[i]? = some x → ys[i]? = some y → H q = none → Pv i σ zs H → (∀ σ' ys' H', Pv (i + 1) σ' ys' H' → N σ' ys' H') → zep p g tc te zs (.ref q) σ (upd H q (.tup [x, y])) N)
 (hd : ∀ σ zs H, Pv n σ zs H → Q (.ref p) H) : zcq (Itz K t1 t2) p js g tc te σ H Q :=
 zfN (n := n) (J := Itz K t1 t2) (js := js) (σ := σ) (H := H) (p := p) (Q := Q) (g := g) (tc := tc) (te := te) Pv h0 (fun i σ zs H hi pv => (hl i σ zs H hi pv).2.2)
  (fun i σ zs H hi pv => ⟨xs, ys, xs[i], ys[i], (hl i σ zs H (Nat.le_of_lt hi) pv).1, (hl i σ zs H (Nat.le_of_lt hi) pv).2.1, by simp, by simp⟩)
  (fun σ zs H pv => ⟨xs, ys, (hl _ σ zs H (Nat.le_refl _) pv).1, (hl _ σ zs H (Nat.le_refl _) pv).2.1, h3⟩)
  (fun i v σ zs H H' N hi y pv hN => by
   obtain ⟨q, e, hq, y⟩ := y
   subst e
   have ex : xs[i]? = some xs[i] := by simp
   have ey : ys[i]? = some ys[i] := by simp
   have e2 := y xs ys _ _ (hl i σ zs H (Nat.le_of_lt hi) pv).1 (hl i σ zs H (Nat.le_of_lt hi) pv).2.1 ex ey
   subst e2
   exact hs i _ _ σ zs H q N ex ey hq pv hN) hd
theorem zeZ : typeLookup (.type "tuple") "keys" = pure none := by rw [typeLookup_type, builtinLookup_eq_fast]; kernel_rfl
set_option maxHeartbeats 4000000 in
theorem zgc {prog : Program} {w : World} {A : Around} {E : Value → Shared → Prop} {a : Addr} {its : Array Value} {n : Nat} {sl : Array (Option Value)} {h : Heap} {g d t os} {Q : Option Value → Shared → Prop}
 (hh : A.handled = none) (hx : h.get? a = some { cls := .type "tuple", dict := none, data := .seq its n, slots := sl })
 (q : ∀ h' tk, (∀ b o, h.get? b = some o → h'.get? b = some o) → Q none ⟨h', g, d, tk, os⟩) : wpAny (model prog w) A (getAttr? (.ref a) "keys") Q E ⟨h, g, d, t, os⟩ := by
 have y0 : ∀ tk', (⟨h, g, d, tk', os⟩ : Shared).TypeIs (.ref a) "tuple" := fun _ => ⟨_, hx, rfl⟩
 have y1 := sub_AttributeError
 have y2 := F.slot_tuple_getattribute.lookup
 have y3 := F.slot_tuple_getattribute.bind (.ref a)
 have y4 := am_tuple_getattr_none
 unfold getAttr? getAttrBy? getAttrBy
 repeat (any_goals (first
  | assumption
  | exact y0 _
  | ((with_reducible show wpAny _ _ (call (Value.builtin "tuple.__getattribute__") _ _) _ _ _)
     refine call_meets F.slot_tuple_getattribute (y0 _) am_entry_tuple_getattribute (F.args_tuple_getattribute_2 _ _) (meets_getattribute_miss_tuple a its n sl "keys" _ zeZ (by decide +kernel)) ⟨hx, hh, fun h' tk' e hx' => ?_⟩)
  | wp_step))
 obtain ⟨t', u', he⟩ := hx'.there
 show wpAny _ _ (getattributeRaised _ _ _ _ _ _ _) _ _ _
 unfold getattributeRaised
 repeat (any_goals (first | assumption | wp_step))
 exact q _ _ hx'.keeps
theorem zd2 : mroOf (.type "dict") = pure [.type "dict", .type "object"] := by rw [mroOf_type]; kernel_rfl
theorem zgR : typeLookup (.type "dict") "__new__" = pure (some (.builtin "dict.__new__")) := by rw [typeLookup_type, builtinLookup_eq_fast]; kernel_rfl
theorem zfg : isSubtype (.type "dict") (.type "dict") = pure true := by rw [isSubtype_type]; kernel_rfl
theorem zfZ : TypeCalled "dict" "dict.__new__" "dict.__init__" :=
 ⟨by decide +kernel, by decide +kernel, ⟨_, _, zd2⟩, madeBy_type zd2 zgR (by decide +kernel), by decide +kernel, by rw [isSubtype_type]; kernel_rfl, PySem.F.slot_dict_init⟩
theorem zgd (a : Value) : checkTypeCall "dict" ⟨[a], []⟩ = pure () := by kernel_rfl
theorem zgM (a : Value) : checkBuiltinCall "dict.__new__" ⟨[.type "dict", a], []⟩ = pure () := by kernel_rfl
theorem zfT : entryFor table "dict.__new__" = some Builtin.«dict.__new__» := entryFor_of_tree (by kernel_rfl)
theorem zdQ : plainId "dict.__new__" = true := by decide +kernel
theorem zdb : entryFor table "dict.update.loop" = some Builtin.«dict.update.loop» := entryFor_of_tree (by kernel_rfl)
theorem zbJ : plainId "dict.update.loop" = true := by decide +kernel
section
variable {prog : Program} {w : World} {A : Around} {E : Value → Shared → Prop} {s : Shared}
theorem zjm (a : Value) {Q₁ : Value → Shared → Prop} (h : Q₁ (.ref s.heap.objs.size) { s with heap := s.heap.push { cls := .type "dict", data := .dict #[] } }) :
 codeAny (model prog w) A (.call (.builtin "dict.__new__") ⟨[.type "dict", a], []⟩) (wants Q₁ E) s := by
 refine codeAny_of_tree ?_
 show wpAny _ A.in1 (checkBuiltinCall "dict.__new__" ⟨[.type "dict", a], []⟩ >>= fun _ => again (.builtin "dict.__new__" ⟨[.type "dict", a], []⟩)) _ _ s
 refine wpAny_bind (wpAny_of_eq (zgM a) (wpAny_pure ⟨plainId_quiet zdQ _, codeAny_builtin zfT ?_⟩))
 rw [Around.under_plainId zdQ _]
 have y1 := zfg
 have y2 := zd2
 obtain ⟨hp, g, d, tk, os⟩ := s
 wp_walk
 exact h
structure Pr (P : Program) (w : World) where
 k : Key
 key : Value
 v : Value
 p : Addr
 is : (zaE P w).is k key = true
theorem zlL {d it t : Addr} {vs : Array Value} {R : Result → Shared → Prop} (hh : A.handled = none) (dt : d ≠ t) (di : d ≠ it) (ti : t ≠ it) : ∀ (rest : List (Pr prog w)) (i : Nat) (kvs : List (Key × Value)) (s : Shared),
 s.heap.IsTupleIter it t i → s.heap.IsTuple t vs → vs.toList.drop i = rest.map (fun r => .ref r.p) → (∀ r ∈ rest, s.heap.IsTuple r.p #[r.key, r.v] ∧ r.p ≠ d ∧ r.p ≠ it) → s.heap.DictOf (zaE prog w) d kvs → kvs.length + rest.length ≤ sizeLine →
 (∀ h' tk, h'.DictOf (zaE prog w) d (rest.foldl (fun acc r => stored acc r.k r.v) kvs) → (∀ b o, b ≠ d → b ≠ it → s.heap.get? b = some o → h'.get? b = some o) → R (.ok (.ret .none)) { s with heap := h', toks := tk }) →
 codeAny (model prog w) A (.builtin "dict.update.loop" ⟨[.ref d, .ref it, rawInt i, .none], []⟩) R s
 | [], i, kvs, s, h1, h2, h3, h4, h5, h6, q => by
  refine codeAny_builtin zdb ?_
  rw [Around.under_plainId zbJ _]
  show wpAny _ _ (pyNext (.ref it) >>= _) _ _ _
  have hv : vs[i]? = none := by
   have : vs.toList.length ≤ i := List.drop_eq_nil_iff.mp h3
   rw [Array.getElem?_eq_none_iff]
   simpa using this
  refine wpAny_bind (wpAny_pyNext_tuple_end (A := A.in1) hh h1 h2 hv fun h' eb => ?_)
  show wpAny _ _ (Builtin.Dict.addKeywords d [] >>= fun _ => ret .none) _ _ _
  refine wpAny_bind (wpAny_pure (wpAny_pure ?_))
  exact q h' _ (h5.extBut eb di) (fun b o hb hb2 e => eb b o hb2 e)
 | r :: rest, i, kvs, s, h1, h2, h3, h4, h5, h6, q => by
  refine codeAny_builtin zdb ?_
  rw [Around.under_plainId zbJ _]
  show wpAny _ _ (pyNext (.ref it) >>= _) _ _ _
  have hl : i < vs.toList.length := by
   rcases Nat.lt_or_ge i vs.toList.length with z | z
   · exact z
   · rw [List.drop_eq_nil_of_le z] at h3; cases h3
  have hv : vs[i]? = some (.ref r.p) := by
   rw [List.drop_eq_getElem_cons hl, List.map_cons] at h3
   injection h3 with e1 e2
   rw [← e1]
   simp at hl ⊢
  have h3' : vs.toList.drop (i + 1) = rest.map (fun r => .ref r.p) := by
   rw [List.drop_eq_getElem_cons hl, List.map_cons] at h3
   injection h3
  obtain ⟨hp, pd, pi⟩ := h4 r (List.mem_cons_self ..)
  refine wpAny_bind (wpAny_pyNext_tuple_item h1 h2 hv fun h' st' sb => ?_)
  have hp' : h'.IsTuple r.p #[r.key, r.v] := hp.extBut sb.extBut pi
  show wpAny _ _ (holding [.ref r.p] _ >>= _) _ _ _
  refine wpAny_bind (wpAny_holding (wpAny_bind (wpAny_tryCatch ?_)))
  obtain ⟨ob, e1, e2, nn, e3⟩ := hp'
  unfold Builtin.Dict.pairItems
  refine wpAny_bind (wpAny_typeOf (s := { s with heap := h' }) ⟨ob, e1, e2⟩ ?_)
  rw [if_pos (by decide)]
  refine wpAny_bind (wpAny_seqItems (s := { s with heap := h' }) e1 e3 (wpAny_pure ?_))
  show wpAny _ _ (holding [r.key, r.v] (dictSet d r.key r.v)) _ _ _
  refine wpAny_holding (wpAny_dictSet_pairs (s := { s with heap := h' }) (knd := zaE prog w) r.is (h5.extBut sb.extBut di) (fun h2' hd2 sb2 => ?_) (by rw [List.length_cons] at h6; omega))
  refine wpAny_pure ⟨plainId_quiet zbJ _, ?_⟩
  have ks : (stored kvs r.k r.v).length ≤ kvs.length + 1 := by
   unfold stored
   split
   · rw [List.length_map]; omega
   · rw [List.length_append, List.length_singleton]; omega
  have := zlL (R := R) hh dt di ti rest (i + 1) (stored kvs r.k r.v) { s with heap := h2', toks := s.toks + 1 } (st'.extBut sb2.extBut di.symm) ((h2.extBut sb.extBut ti).extBut sb2.extBut dt.symm) h3'
   (fun r' hr' => by
    obtain ⟨a1, a2, a3⟩ := h4 r' (List.mem_cons_of_mem _ hr')
    exact ⟨(a1.extBut sb.extBut a3).extBut sb2.extBut a2, a2, a3⟩) hd2 (by rw [List.length_cons] at h6; omega)
   (fun h3 tk a1 a2 => q h3 tk a1 (fun b o hb hb2 e => a2 b o hb hb2 (sb2.extBut b o hb (sb.extBut b o hb2 e))))
  exact this
end
def zlo : List V → Hp → VK → Prop := fun xs H Q => ∃ (a : Addr) (prs : List (Addr × Key × V)), xs = [.ref a] ∧ H a = some (.tup (prs.map fun p => V.ref p.1)) ∧ (∀ p ∈ prs, H p.1 = some (.tup [kV p.2.1, p.2.2])) ∧
 ∀ d, H d = none → Q (.ref d) (upd H d (.dK (prs.foldl (fun acc p => putK acc p.2.1 p.2.2) [])))
theorem zlp {P : Program} {w : World} {H : Hp} {h : Heap} (ok : HOk P w H h) : ∀ prs : List (Addr × Key × V), (∀ p ∈ prs, H p.1 = some (.tup [kV p.2.1, p.2.2])) →
 ∃ rs : List (Pr P w), rs.map (fun r => r.p) = prs.map (·.1) ∧ (∀ r ∈ rs, h.IsTuple r.p #[r.key, r.v]) ∧ ∀ (kvs : List (Key × V)) (vs : List (Key × Value)), KV kvs vs → KV (prs.foldl (fun acc p => putK acc p.2.1 p.2.2) kvs) (rs.foldl (fun acc r => stored acc r.k r.v) vs)
 | [], _ => ⟨[], rfl, fun r hr => by simp at hr, fun kvs vs r => r⟩
 | p :: prs, hp => by
  obtain ⟨rs, e1, e2, e3⟩ := zlp ok prs (fun q hq => hp q (List.mem_cons_of_mem _ hq))
  obtain ⟨_, its, r, tp⟩ := (show ObjOk P w H h p.1 (.tup [kV p.2.1, p.2.2]) from ok p.1 _ (hp p (List.mem_cons_self ..)))
  obtain ⟨u1, u2, rfl, r1, r2⟩ := zhw r
  refine ⟨⟨p.2.1, u1, u2, p.1, zgT r1⟩ :: rs, by rw [List.map_cons, List.map_cons, e1], fun q hq => ?_, fun kvs vs rv => ?_⟩
  · rcases List.mem_cons.mp hq with rfl | hq
    · exact tp.tup
    · exact e2 q hq
  · rw [List.foldl_cons, List.foldl_cons]
    exact e3 _ _ (rv.put p.2.1 r2)
section
variable {X : Cx}
theorem zh7 (hc : X.calm = true) : zcQ X (.type "dict") zlo := by
 intro pins s σ H xs us Q I r h
 obtain ⟨a, prs, rfl, ha, hp, q⟩ := h
 obtain ⟨u, rfl, rx⟩ := zcR r
 cases rx
 obtain ⟨zl, its, rv, o, e1, e2, e3, n, e4⟩ := (show ObjOk X.prog X.w H s.heap a (.tup (prs.map fun p => V.ref p.1)) from I.hok a _ ha)
 obtain ⟨oc, od, odat, osl⟩ := o
 cases e2
 cases e3
 cases e4
 have hh := I.ok.hd hc
 have sz : s.heap.objs.size ≠ a := Nat.ne_of_gt (Heap.lt_size e1)
 refine callType_codes (Q₁ := fun obj s₁ => obj = .ref s.heap.objs.size ∧ s₁ = { s with heap := s.heap.push { cls := .type "dict", data := .dict #[] } }) zfZ (zgd _) PySem.F.entry_dict_init (zjm _ ⟨rfl, rfl⟩) fun obj s₁ h₁ => ?_
 obtain ⟨rfl, rfl⟩ := h₁
 have I1 := I.laid (a := s.heap.objs.size) (o := .dK []) (h' := s.heap.push { cls := .type "dict", data := .dict #[] }) (t' := s.toks) (fun _ _ q => Heap.get?_push_of_some _ q) (Nat.le_refl _) (zho s.heap I.big)
 have hD : (s.heap.push { cls := .type "dict", data := .dict #[] }).get? s.heap.objs.size = some { cls := .type "dict", data := .dict #[] } := Heap.get?_push_size _ rfl
 refine ⟨⟨_, hD, rfl⟩, PySem.F.args_dict_init_2 _ _, ?_⟩
 have hT : Shared.TypeIs { s with heap := s.heap.push { cls := .type "dict", data := .dict #[] } } (.ref s.heap.objs.size) "dict" := ⟨_, hD, rfl⟩
 have hA : (s.heap.push { cls := .type "dict", data := .dict #[] }).get? a = some { cls := .type "tuple", dict := none, data := .seq its.toArray n, slots := osl } := Heap.get?_push_of_some _ e1
 unfold Builtin.«dict.__init__» Builtin.Dict.selfAndRest
 refine wpAny_bind (wpAny_bind (wpAny_notOrdered_dict hT (wpAny_pure ?_)))
 show wpAny _ _ (Builtin.Dict.updateFrom "dict.__init__" s.heap.objs.size (.ref a) [] .none) _ _ _
 unfold Builtin.Dict.updateFrom
 refine wpAny_bind (wpAny_typeOf (s := { s with heap := s.heap.push { cls := .type "dict", data := .dict #[] } }) ⟨_, hA, rfl⟩ ?_)
 rw [if_pos (by decide)]
 obtain ⟨rs, r1, r2, r3⟩ := zlp I.hok prs hp
 have hits : its = rs.map (fun r => Value.ref r.p) := by
  have e : ∀ (l : List (Addr × Key × V)) (m : List Value), Vals (l.map fun p => V.ref p.1) m → m = (l.map (·.1)).map Value.ref := by
   intro l
   induction l with
   | nil => intro m q; cases q; rfl
   | cons p l ih =>
    intro m q
    cases q with
    | cons q1 q2 => cases q1; rw [ih _ q2]; rfl
  rw [e prs its rv, ← r1, List.map_map]
  rfl
 have hlen : rs.length = prs.length := by
  have := congrArg List.length r1
  simpa using this
 rw [List.length_map] at zl
 have hsys := I.big
 obtain ⟨hp0, g, dr, tk0, os⟩ := s
 refine wpAny_bind (zgc (A := X.A.in1.in1) hh hA fun h' tk kp => ?_)
 simp only [Option.isNone_none, if_true]
 have kp0 : ∀ b o, hp0.get? b = some o → h'.get? b = some o := fun b o e => kp b o (Heap.get?_push_of_some _ e)
 have I2 : Inv X pins σ (upd H hp0.objs.size (.dK [])) ⟨h', g, dr, tk, os⟩ := I1.kept (t' := tk) kp
 have hA' : h'.IsTuple a its.toArray := ⟨_, kp _ _ hA, rfl, _, rfl⟩
 have dlt : hp0.objs.size < h'.objs.size := Heap.lt_size (kp _ _ hD)
 have alt : a < h'.objs.size := Heap.lt_size (kp _ _ hA)
 refine wpAny_bind (wpAny_rule (wpAny_bind (wpAny_pyIter_tuple (s := ⟨h', g, dr, tk, os⟩) hA' (wpAny_pure ⟨plainId_quiet zbJ _, ?_⟩))))
 obtain ⟨zd, hd, vs0, rk0, dd⟩ := zd5 I2.hok (show (upd H hp0.objs.size (.dK [])) hp0.objs.size = some (.dK []) from zab)
 cases rk0
 refine zlL (A := X.A.in1) hh sz (Nat.ne_of_lt dlt) (Nat.ne_of_lt alt) rs 0 [] _ ⟨_, Heap.get?_push_size _ rfl, rfl, rfl⟩ (Heap.IsTuple.push hA' _) ?_ ?_ (dd.push _) ?_ ?_
 · rw [List.drop_zero, ← hits]
 · intro r hr
   have t0 := r2 r hr
   have plt : r.p < hp0.objs.size := by
    obtain ⟨o, e, _⟩ := t0
    exact Heap.lt_size e
   exact ⟨Heap.IsTuple.push (t0.at fun o e => kp0 _ o e) _, Nat.ne_of_lt plt, Nat.ne_of_lt (Nat.lt_trans plt dlt)⟩
 · rw [hlen]; simpa using zl
 · intro h2 tk2 hd2 k2
   have k3 : ∀ b u, b ≠ hp0.objs.size → h'.get? b = some u → h2.get? b = some u := fun b u hb e => k2 b u hb (Nat.ne_of_lt (Heap.lt_size e)) (Heap.get?_push_of_some _ e)
   have he : ∃ q, h2.get? hp0.objs.size = some q := let ⟨q, _, _, hq, _⟩ := hd2; ⟨q, hq⟩
   have hz : (prs.foldl (fun acc p => putK acc p.2.1 p.2.2) []).length ≤ sizeLine := by
    have len : ∀ (l : List (Addr × Key × V)) (acc : List (Key × V)), (l.foldl (fun acc p => putK acc p.2.1 p.2.2) acc).length ≤ acc.length + l.length := by
     intro l
     induction l with
     | nil => intro acc; exact Nat.le_refl _
     | cons p l ih =>
      intro acc
      rw [List.foldl_cons, List.length_cons]
      have h1 := ih (putK acc p.2.1 p.2.2)
      have h2 := zbz acc p.2.1 p.2.2
      omega
    have := len prs []
    simp at this
    omega
   have I3 := I2.write (x := hp0.objs.size) (e := hp0.objs.size) (o := .dK (prs.foldl (fun acc p => putK acc p.2.1 p.2.2) [])) (t' := tk2) (by rw [zab]; exact True.intro) (.inl rfl) k3 he (zje hz hd (r3 [] [] .nil) hd2)
   rw [zky] at I3
   exact ⟨rfl, .ref hp0.objs.size, _, I3, rfl, q _ (I.hok.fresh (Nat.le_refl _))⟩
end
section
variable {X : Cx} {pins : List (Addr × Obj)} {σ : St} {H : Hp} {s : Shared} {h' : Heap}
end
theorem zf1 : bootBuiltins "enumerate" = some (.type "enumerate") := by decide +kernel
section
variable {X : Cx}
end
section
variable {X : Cx} {e : Expr} {te : TE} {pos p2 p3 p4 : Pos} {n : Nat}
end
def unlike (ns : List Int) : Nat := (ns.foldl step_dedup []).length
section
variable {X : Cx} {e : Expr} {te : TE} {pos p2 p3 p4 : Pos}
end
section
variable {X : Cx}
end
end L2
namespace WB
end WB
namespace L2
open PySem PySem.Spec PyProof.Rows
section
variable {X : Cx}
def zlS (i j : Int) : Prop := i.natAbs < 2 ^ 1000 ∧ j.natAbs < 2 ^ 1000
theorem zdk : OpR X (binaryOp .Mult) (rI zlS fun i j => .int (i * j)) := opI fun i j _ _ _ _ _ hc q =>
 mul_int q (IntMulOk.of_bits (Nat.le_trans (intBits_le hc.1) (by decide)) (Nat.le_trans (intBits_le hc.2) (by decide)))
end
section
variable {K : PySem.W.Frag} {H : Hp} {Q : VK}
end
theorem nb {i : Int} (h0 : 0 ≤ i) (h1 : i < 2 ^ 400) : i.natAbs < 2 ^ 1000 := by
 have : i.natAbs < 2 ^ 400 := by omega
 exact Nat.lt_of_lt_of_le this (by decide)
def zjE (K : PySem.W.Frag) : Sp := fun vs H Q _ => ∃ (a : Addr) (ns : List Int), vs = [.ref a] ∧ SqL K H a (ns.map V.int) ∧ ns.length ≤ 63 ∧ ∀ H', Q (.bl true) H'
theorem mn (i j : Int) : (if j < i then j else i) = min i j := by rw [Int.min_def]; split <;> split <;> omega
def Tups (H H' : Hp) : Prop := ∀ a xs, H a = some (.tup xs) → H' a = some (.tup xs)
theorem Tups.trans {H H1 H2 : Hp} (a : Tups H H1) (b : Tups H1 H2) : Tups H H2 := fun c xs h => b c xs (a c xs h)
theorem Same.tups {H H' : Hp} (s : Same H H') : Tups H H' := fun a xs h => s _ _ h
theorem zb0 {H : Hp} {p : Addr} {ys : List V} {o : HO} (h : H p = some (.lst ys)) : Tups H (upd H p o) := fun a xs e => by
 rw [zan (zed e h (by intro z; cases z))]
 exact e
theorem zbL {H H0 : Hp} {p : Addr} {o : HO} (s : Same H0 H) (n : H0 p = none) : Same H0 (upd H p o) := fun a u e => by
 rw [zan (zaz e n)]
 exact s _ _ e
def endV : V → Bool
 | .non => true
 | .int _ => true
 | _ => false
def leV : V → V → Bool
 | .int i, .int j => decide (i ≤ j)
 | _, _ => true
def zbo (H : Hp) : V → Bool
 | .ref a => match H a with
  | some (.tup [x, y]) => endV x && endV y && leV x y
  | _ => false
 | _ => false
def SpanAt (H : Hp) (v : V) (lo hi : Option Int) : Prop := ∃ a, v = .ref a ∧ H a = some (.tup [eV lo, eV hi])
def leO : Option Int → Option Int → Bool
 | some i, some j => decide (i ≤ j)
 | _, _ => true
theorem zi0 {H : Hp} {v : V} {lo hi : Option Int} (h : SpanAt H v lo hi) : zbo H v = leO lo hi := by
 obtain ⟨a, rfl, e⟩ := h
 unfold zbo
 simp only [e]
 cases lo <;> cases hi <;> simp [eV, endV, leV, leO]
theorem zla {K : PySem.W.Frag} {H : Hp} (o : Option Int) : ∃ t, TyOf K H (eV o) (.type t) := by
 cases o with
 | none => exact ⟨_, .non⟩
 | some i => exact ⟨_, .int i⟩
def zde (K : PySem.W.Frag) : Sp := fun vs H Q _ => ∃ (v : V) (t : String), vs = [v] ∧ TyOf K H v (.type t) ∧ Q (.bl (t == "int")) H
def zkE (K : PySem.W.Frag) : Sp := fun vs H Q _ => ∃ (v : V) (t : String), vs = [v] ∧ TyOf K H v (.type t) ∧ Q (.bl (endV v)) H
def zkv (K : PySem.W.Frag) (H : Hp) (v : V) : Prop := ∀ a x y, v = .ref a → H a = some (.tup [x, y]) → ∃ t1 t2, TyOf K H x (.type t1) ∧ TyOf K H y (.type t2)
def zex (K : PySem.W.Frag) : Sp := fun vs H Q _ => ∃ (v : V) (t : String), vs = [v] ∧ TyOf K H v (.type t) ∧ zkv K H v ∧ Q (.bl (zbo H v)) H
theorem SpanAt.ty {K : PySem.W.Frag} {H : Hp} {v : V} {lo hi : Option Int} (h : SpanAt H v lo hi) : TyOf K H v (.type "tuple") ∧ zkv K H v := by
 obtain ⟨a, rfl, q⟩ := h
 refine ⟨.tup q, fun a' x y e q' => ?_⟩
 cases e
 rw [q] at q'
 injection q' with q'
 injection q' with q'
 injection q' with e1 e2
 injection e2 with e2 _
 subst e1 e2
 obtain ⟨t1, h1⟩ := zla (K := K) (H := H) lo
 obtain ⟨t2, h2⟩ := zla (K := K) (H := H) hi
 exact ⟨t1, t2, h1, h2⟩
def mLo : Option Int → Option Int → Option Int
 | none, o => o
 | some l, none => some l
 | some l, some o => some (if l < o then o else l)
def mHi : Option Int → Option Int → Option Int
 | none, o => o
 | some h, none => some h
 | some h, some o => some (if o < h then o else h)
def apart : Option Int → Option Int → Bool
 | some l, some h => decide (h < l)
 | _, _ => false
def zke (H : Hp) (v : V) (lo hi : Option Int) : Prop := if apart lo hi = true then v = .non else SpanAt H v lo hi
def loB : Option Int → Int → Bool
 | none, _ => true
 | some l, k => decide (l ≤ k)
def hiB : Option Int → Int → Bool
 | none, _ => true
 | some h, k => decide (k ≤ h)
def inB (lo hi : Option Int) (k : Int) : Bool := loB lo k && hiB hi k
def zeu : Sp := fun vs H Q _ => ∃ (v w : V) (lo hi lo2 hi2 : Option Int), vs = [v, w] ∧ SpanAt H v lo hi ∧ SpanAt H w lo2 hi2 ∧ ∀ v' H', Same H H' → zke H' v' (mLo lo lo2) (mHi hi hi2) → Q v' H'
theorem zj5 (o1 o2 : Option Int) : ∃ ns : List Int, ([o1, o2].filter Option.isSome).map eV = ns.map V.int ∧ zkb (fun i j => decide (j < i)) ns .non = eV (mLo o1 o2) := by
 cases o1 with
 | none =>
  cases o2 with
  | none => exact ⟨[], rfl, rfl⟩
  | some b => exact ⟨[b], rfl, rfl⟩
 | some a =>
  cases o2 with
  | none => exact ⟨[a], rfl, rfl⟩
  | some b =>
   refine ⟨[a, b], rfl, ?_⟩
   show V.int (if decide (a < b) = true then b else a) = V.int (if a < b then b else a)
   by_cases h : a < b
   · rw [if_pos (decide_eq_true h), if_pos h]
   · rw [if_neg (by rw [decide_eq_false h]; exact Bool.false_ne_true), if_neg h]
theorem zj4 (o1 o2 : Option Int) : ∃ ns : List Int, ([o1, o2].filter Option.isSome).map eV = ns.map V.int ∧ zkb (fun i j => decide (i < j)) ns .non = eV (mHi o1 o2) := by
 cases o1 with
 | none =>
  cases o2 with
  | none => exact ⟨[], rfl, rfl⟩
  | some b => exact ⟨[b], rfl, rfl⟩
 | some a =>
  cases o2 with
  | none => exact ⟨[a], rfl, rfl⟩
  | some b =>
   refine ⟨[a, b], rfl, ?_⟩
   show V.int (if decide (b < a) = true then b else a) = V.int (if b < a then b else a)
   by_cases h : b < a
   · rw [if_pos (decide_eq_true h), if_pos h]
   · rw [if_neg (by rw [decide_eq_false h]; exact Bool.false_ne_true), if_neg h]
abbrev T15 : Int := 1000000000000000
theorem e15 : (10 : Int) ^ (15 : Int).toNat = T15 := by decide
theorem pw10 {j : Int} (h0 : 0 ≤ j) (h1 : j ≤ 1000) : zlR 10 j := ⟨h0, h1, by decide⟩
def near : Option Int → List Int
 | none => []
 | some e => [e - 1, e, e + 1]
def pts0 : List Int := [0, 10 ^ (17 : Int).toNat, 0 - 10 ^ (17 : Int).toNat]
def zl5 (ss : List (Option Int × Option Int)) : List Int := pts0 ++ ss.flatMap fun s => near s.1 ++ near s.2
def spPoints (K : PySem.W.Frag) : Sp := fun vs H Q _ => ∃ (a : Addr) (ss : List (Addr × Option Int × Option Int)), vs = [.ref a] ∧ SqL K H a (ss.map fun s => V.ref s.1) ∧ (∀ s ∈ ss, H s.1 = some (.tup [eV s.2.1, eV s.2.2])) ∧ ss.length ≤ 8 ∧
 ∀ r H', Same H H' → H' r = some (.lst ((zl5 (ss.map (·.2))).map V.int)) → Q (.ref r) H'
theorem zfK (lo hi lo2 hi2 : Option Int) (k : Int) : inB (mLo lo lo2) (mHi hi hi2) k = (inB lo hi k && inB lo2 hi2 k) := by
 cases lo <;> cases hi <;> cases lo2 <;> cases hi2 <;> simp only [inB, loB, hiB, mLo, mHi, Bool.true_and, Bool.and_true] <;> rw [Bool.eq_iff_iff] <;> simp <;> (try split) <;> (try split) <;> omega
theorem zkc {lo hi : Option Int} (h : apart lo hi = true) (k : Int) : inB lo hi k = false := by
 cases lo with
 | none => cases h
 | some l =>
  cases hi with
  | none => cases h
  | some j =>
   have h : decide (j < l) = true := h
   have h := of_decide_eq_true h
   simp only [inB, loB, hiB]
   by_cases h1 : l ≤ k
   · rw [decide_eq_true h1, decide_eq_false (by omega)]; rfl
   · rw [decide_eq_false h1]; rfl
def zbr (c : Nat) : Bool := decide (97 ≤ c) && decide (c ≤ 122)
structure FieldOk (x : Str) : Prop where
 one : 1 ≤ x.length
 eight : x.length ≤ 8
 all : ∀ c ∈ x.cps.toList, zbr c = true
theorem zmf : ("a" : Str).cps.toList = [97] := by decide +kernel
theorem zme : ("z" : Str).cps.toList = [122] := by decide +kernel
theorem ge_a {c : Nat} (h : zbr c = true) : (!decide ((⟨#[c]⟩ : Str).cps.toList < ("a" : Str).cps.toList)) = true := by
 rw [zmf]
 have h1 : 97 ≤ c := of_decide_eq_true ((Bool.and_eq_true _ _).mp h).1
 have : ¬ ([c] : List Nat) < [97] := by
  intro z
  cases z with
  | rel z => exact absurd z (by omega)
  | cons z => cases z
 show (!decide (([c] : List Nat) < [97])) = true
 rw [decide_eq_false this]
 rfl
theorem le_z {c : Nat} (h : zbr c = true) : (!decide (("z" : Str).cps.toList < (⟨#[c]⟩ : Str).cps.toList)) = true := by
 rw [zme]
 have h1 : c ≤ 122 := of_decide_eq_true ((Bool.and_eq_true _ _).mp h).2
 have : ¬ ([122] : List Nat) < [c] := by
  intro z
  cases z with
  | rel z => exact absurd z (by omega)
  | cons z => cases z
 show (!decide (([122] : List Nat) < [c])) = true
 rw [decide_eq_false this]
 rfl
def zgl : Sp := fun vs H Q _ => ∃ x : Str, vs = [.str x] ∧ FieldOk x ∧ ∀ H', Same H H' → Q (.bl true) H'
def zmh (H : Hp) (p : Addr) (f : Str) (lo hi : Option Int) : Prop := H p = some (.tup [.str f, eV lo, eV hi])
def zdd : Sp := fun vs H Q _ => ∃ (p : Addr) (f : Str) (lo hi : Option Int), vs = [.ref p] ∧ zmh H p f lo hi ∧ FieldOk f ∧ leO lo hi = true ∧ ∀ H', Same H H' → Q (.bl true) H'
def ltF (f g : Str) : Prop := f.cps.toList < g.cps.toList
def zez : Sp := fun vs H Q _ => ∃ (a : Addr) (ps : List (Addr × Str × List V)), vs = [.ref a] ∧ H a = some (.tup (ps.map fun p => V.ref p.1)) ∧ ps.length ≤ 100 ∧ (∀ p ∈ ps, H p.1 = some (.tup (V.str p.2.1 :: p.2.2))) ∧
 (∀ (i : Nat) p q, ps[i]? = some p → ps[i + 1]? = some q → ltF p.2.1 q.2.1) ∧ ∀ H', Same H H' → Q (.bl true) H'
abbrev WP := Str × Option Int × Option Int
def WishAt (H : Hp) (a : Addr) (w : List WP) : Prop := ∃ ps : List (Addr × WP), ps.map (·.2) = w ∧ H a = some (.tup (ps.map fun p => V.ref p.1)) ∧ ∀ p ∈ ps, H p.1 = some (.tup [.str p.2.1, eV p.2.2.1, eV p.2.2.2])
theorem WishAt.keep {H H' : Hp} {a : Addr} {w : List WP} (h : WishAt H a w) (s : Tups H H') : WishAt H' a w := by
 obtain ⟨ps, e, h1, h2⟩ := h
 exact ⟨ps, e, s _ _ h1, fun p hp => s _ _ (h2 p hp)⟩
theorem WishAt.same {H H' : Hp} {a : Addr} {w : List WP} (h : WishAt H a w) (s : Same H H') : WishAt H' a w := h.keep s.tups
structure WOk (w : List WP) : Prop where
 len : w.length ≤ 100
 ok : ∀ p ∈ w, FieldOk p.1 ∧ leO p.2.1 p.2.2 = true
 asc : (w.map (·.1)).Pairwise ltF
def zal (w : List WP) (f : Str) : Option (Option Int × Option Int) := (w.find? (fun p => decide (p.1 = f))).map (·.2)
theorem zgf {w : List WP} {f : Str} (h : ∀ p ∈ w, p.1 ≠ f) : zal w f = none := by
 unfold zal
 rw [List.find?_eq_none.mpr fun p hp z => h p hp (of_decide_eq_true z)]
 rfl
theorem zdK (w : List WP) (p : WP) (f : Str) (hn : zal w p.1 = none) : zal (w ++ [p]) f = if f = p.1 then some p.2 else zal w f := by
 unfold zal at *
 rw [List.find?_append]
 by_cases h : f = p.1
 · subst h
   rw [if_pos rfl]
   cases e : w.find? (fun q => decide (q.1 = p.1)) with
   | some q => rw [e] at hn; cases hn
   | none => simp
 · rw [if_neg h]
   cases e : w.find? (fun q => decide (q.1 = f)) with
   | some q => rfl
   | none => simp; exact fun z => h z.symm
theorem zdv {f g : Str} (h : ltF f g) : f ≠ g := fun e => by
 subst e
 exact List.lt_irrefl _ h
theorem WOk.fresh {w : List WP} (h : WOk w) {i : Nat} {p : WP} (hp : w[i]? = some p) : zal (w.take i) p.1 = none := by
 refine zgf fun q hq e => ?_
 obtain ⟨j, hj⟩ := List.getElem?_of_mem hq
 rw [List.getElem?_take] at hj
 split at hj
 · rename_i lt
   have hi : i < w.length := (List.getElem?_eq_some_iff.mp hp).1
   have := List.pairwise_iff_getElem.mp h.asc j i (by rw [List.length_map]; omega) (by rw [List.length_map]; exact hi) lt
   rw [List.getElem_map, List.getElem_map] at this
   have e1 : w[j]'(by omega) = q := (List.getElem?_eq_some_iff.mp hj).2
   have e2 : w[i] = p := (List.getElem?_eq_some_iff.mp hp).2
   rw [e1, e2] at this
   exact zdv this e
 · cases hj
def zew : Sp := fun vs H Q _ => ∃ (a : Addr) (w : List WP), vs = [.ref a] ∧ WishAt H a w ∧ WOk w ∧ ∀ H', Same H H' → Q (.bl true) H'
def zdN : Sp := fun vs H Q _ => ∃ (a : Addr) (w : List WP), vs = [.ref a] ∧ WishAt H a w ∧ WOk w ∧ ∀ H', Same H H' → Q .non H'
def zgJ : Option Int → Option Int → Int
 | some l, _ => l
 | none, some h => h
 | none, none => 0
def zgk : Sp := fun vs H Q _ => ∃ (v : V) (lo hi : Option Int), vs = [v] ∧ SpanAt H v lo hi ∧ Q (.int (zgJ lo hi)) H
abbrev PP := Str × Int
def PieceAt (H : Hp) (a : Addr) (w : List PP) : Prop := ∃ ps : List (Addr × PP), ps.map (·.2) = w ∧ H a = some (.tup (ps.map fun p => V.ref p.1)) ∧ ∀ p ∈ ps, H p.1 = some (.tup [.str p.2.1, .int p.2.2])
theorem zlM {K : PySem.W.Frag} {a p : Addr} {xs : List V} {g : TG} {tc : TT} {tk tv : TE} {σ : St} {H : Hp} {Q : VK} {js : Cap} (Pv : Nat → St → List (Key × V) → Hp → Prop) (h0 : Pv 0 (inn js σ) [] (upd H p (.dK [])))
 (hl : ∀ i σ kvs H, i ≤ xs.length → Pv i σ kvs H → SqT K H a xs ∧ H p = some (.dK kvs) ∧ kvs.length < sizeLine)
 (hs : ∀ (i : Nat) x σ kvs H (N : St → List (Key × V) → Hp → Prop), xs[i]? = some x → Pv i σ kvs H → (∀ σ' kvs' H', Pv (i + 1) σ' kvs' H' → N σ' kvs' H') → g x σ H fun σ2 H2 => tc σ2 H2 fun b H3 =>
  if b = true then tk σ2 H3 fun k H4 => tv σ2 H4 fun y H5 => ∃ ky, k = kV ky ∧ H5 p = some (.dK kvs) ∧ N σ2 (putK kvs ky y) (upd H5 p (.dK (putK kvs ky y))) else N σ2 kvs H3)
 (hd : ∀ σ kvs H, Pv xs.length σ kvs H → Q (.ref p) H) : zjy (Itt K a) p js g tc tk tv σ H Q := by
 refine ⟨fun i m σ kvs H => m = xs.length - i ∧ i ≤ xs.length ∧ Pv i σ kvs H, ⟨xs.length, by simp, Nat.zero_le _, h0⟩, ?_⟩
 rintro i m σ kvs H ⟨rfl, hi, pv⟩
 obtain ⟨q0, q1, q2⟩ := hl i σ kvs H hi pv
 refine ⟨q1, ?_⟩
 by_cases lt : i < xs.length
 · refine .inr ⟨⟨xs, xs[i], q0, by simp [lt]⟩, q2, fun x H' y => ?_⟩
   obtain ⟨e, y⟩ := y
   subst e
   exact hs i x σ kvs H' (fun σ2 kvs2 H2 => ∃ m', m' < xs.length - i ∧ m' = xs.length - (i + 1) ∧ i + 1 ≤ xs.length ∧ Pv (i + 1) σ2 kvs2 H2) (y xs q0) pv fun σ' ys' H' p' => ⟨xs.length - (i + 1), by omega, rfl, lt, p'⟩
 · have e : i = xs.length := by omega
   subst e
   exact .inl ⟨⟨xs, q0, Nat.le_refl _⟩, hd σ kvs H pv⟩
theorem zic : ∀ {ts : List Str} {us : List Value}, Vals (ts.map V.str) us → ∃ l : List (Str × Tok), strValues l = us ∧ l.map (·.1) = ts
 | [], _, h => by cases h; exact ⟨[], rfl, rfl⟩
 | x :: ts, _, h => by
  rw [List.map_cons] at h
  cases h with
  | cons r h =>
   obtain ⟨t, rfl⟩ := r
   obtain ⟨l, h1, h2⟩ := zic h
   exact ⟨(x, t) :: l, by rw [← h1]; rfl, by rw [← h2]; rfl⟩
theorem zeg : ∀ {ts : List Str} {us : List Value}, Vals (ts.map V.str) us → StrsAre us ts
 | [], _, h => by cases h; exact .nil
 | x :: ts, _, h => by
  rw [List.map_cons] at h
  cases h with
  | cons r h =>
   obtain ⟨t, rfl⟩ := r
   exact .cons _ _ (zeg h)
theorem zbD : ∀ {us : List Value} {ts : List Str}, StrsAre us ts → Vals (ts.map V.str) us
 | _, _, .nil => .nil
 | _, _, .cons n t h => .cons ⟨t, rfl⟩ (zbD h)
section
variable {X : Cx}
def zl3 (K : PySem.W.Frag) : V → List V → Hp → VK → Prop := fun x vs H Q => ∃ (y : Str) (a : Addr) (ts : List Str), x = .str y ∧ vs = [.ref a] ∧ SqL K H a (ts.map V.str) ∧ JoinOk y ts = true ∧ Q (.str (Txt.join y ts)) H
theorem zkX : MtM X "str.join" (zl3 X.K) := by
 intro pins s σ H x vs v us Q I rx rv h
 obtain ⟨y, a, ts, rfl, rfl, hq, hok, q⟩ := h
 obtain ⟨t, rfl⟩ := rx
 obtain ⟨u, rfl, ru⟩ := rv.one
 cases ru
 obtain ⟨its, r, ht, hz⟩ := I.list hq
 obtain ⟨l, rfl, rfl⟩ := zic r
 unfold JoinOk at hok
 rw [Bool.not_eq_true'] at hok
 refine call_meets F.slot_str_join (typeIs_str _ _ _) F.entry_str_join (F.args_str_join_2 _ _) (meets_str_join_list y t a l hok) ⟨ht.isList, post_join l ⟨joinFit_length hok, fun t' k => ?_⟩⟩
 exact ⟨.str _, H, I.kept (t' := k) fun b o e => e, ⟨t', rfl⟩, q⟩
def zlm (K : PySem.W.Frag) : List V → Hp → VK → Prop := fun xs H Q => ∃ (a : Addr) (ns : List Str), xs = [.ref a] ∧ SqL K H a (ns.map V.str) ∧ ns.length < 64 ∧
 ∀ (p : Addr) (ms : List Str), ms.Perm ns → sortedS ms = true → H p = none → Q (.ref p) (upd H p (.lst (ms.map V.str)))
theorem zf0 : zcQ X (.builtin "sorted") (zlm X.K) := by
 intro pins s σ H xs us Q I r h
 obtain ⟨a, ns, rfl, hq, h64, q⟩ := h
 obtain ⟨u, rfl, rx⟩ := zcR r
 cases rx
 obtain ⟨its, rv, ht, hz⟩ := I.list hq
 have hl := rv.length
 rw [List.length_map] at hl
 refine sorted_strs ht.isList (zeg rv) (by omega) fun out ns' a1 a2 a3 => ?_
 obtain ⟨e, he⟩ := sortedAll_at s.heap its out
 have hn : H (s.heap.objs.size + 1) = none := I.hok.fresh (Nat.le_succ _)
 have hlen : ns'.length = ns.length := a2.length_eq
 refine ⟨.ref (s.heap.objs.size + 1), upd H (s.heap.objs.size + 1) (.lst (ns'.map V.str)), I.laid (t' := s.toks) (fun b o e => sortedAll_old e) (Nat.le_succ _) ?_, rfl, q _ ns' a2 a3 hn⟩
 have hz' : ns.length ≤ sizeLine := by rw [List.length_map] at hz; exact hz
 exact ⟨by rw [List.length_map]; omega, out.toList, e, zbD a1, by simpa [seqObj] using he⟩
end
theorem zls (t : SetTable) (n : Nat) : (t.orStandIn n).led = t.led := by unfold SetTable.orStandIn; split <;> rfl
theorem zjP (t : SetTable) (n : Nat) (h : t.plain = false) : (t.orStandIn n).plain = false := by
 unfold SetTable.orStandIn
 split
 · exact h
 · rfl
theorem zkY (t : SetTable) (es : Array (Int × Value)) (h : Int) (x : Value) : (layNew t es h x).2.1.led = t.led := by
 unfold layNew
 split
 · exact (zls _ _).trans rfl
 · rfl
theorem ziT (t : SetTable) (es : Array (Int × Value)) (h : Int) (x : Value) : t.plain = false → (layNew t es h x).2.1.plain = false := by
 intro hp
 unfold layNew
 split
 · exact zjP _ _ hp
 · rfl
theorem ziU {mask finger moves : Nat} {led plain : Bool} {hs : Array Int} {t : SetTable} {o : Array Nat} (h : SetTable.laid mask finger moves led plain hs = some (t, o)) : t.led = led ∧ t.plain = plain := by
 unfold SetTable.laid at h
 cases h1 : SetTable.layClean mask hs with
 | none => rw [h1] at h; cases h
 | some ow =>
  rw [h1] at h
  simp only [Option.bind_eq_bind, Option.bind_some, Option.pure_def, Option.some.injEq, Prod.mk.injEq] at h
  rw [← h.1]
  exact ⟨rfl, rfl⟩
theorem ziu (t : SetTable) (es : Array (Int × Value)) (n : Nat) : (relayAll t es n).2.1.led = t.led := by
 unfold relayAll
 split
 · rename_i t' o h
   dsimp only
   split
   · exact (ziU h).1
   · rfl
 · rfl
theorem zgu (t : SetTable) (es : Array (Int × Value)) (n : Nat) (hp : t.plain = false) : (relayAll t es n).2.1.plain = false := by
 unfold relayAll
 split
 · rename_i t' o h
   dsimp only
   split
   · rw [← hp]; exact (ziU h).2
   · rfl
 · rfl
def byTx (w : World) : Bool := w.params.followText "set-order"
structure TxSet (prog : Program) (w : World) (h : Heap) (a : Addr) (ks : List Str) : Prop where
 at' : ∃ (es : Array (Int × Value)) (ep : Nat) (t : SetTable), h.get? a = some { cls := .type "set", dict := none, data := .set es ep t } ∧ ElemsOf (strKind prog w) es.toList ∧
  StrsAre (es.toList.map (·.2)) ks ∧ t.fits es.size = true ∧ t.led = !byTx w ∧ (es.size = 0 ∨ t.plain = false)
 nodup : ks.Nodup
 few : ks.length < scanBound
theorem zb2 : ∀ {vs : List Value} {ks : List Str}, StrsAre vs ks → vs.length = ks.length
 | _, _, .nil => rfl
 | _, _, .cons _ _ h => by rw [List.length_cons, List.length_cons, zb2 h]
theorem zdI : ∀ {vs us : List Value} {ks js : List Str}, StrsAre vs ks → StrsAre us js → StrsAre (vs ++ us) (ks ++ js)
 | _, _, _, _, .nil, h => h
 | _, _, _, _, .cons _ _ h', h => .cons _ _ (zdI h' h)
theorem zcj {vs us : List Value} (p : us.Perm vs) : ∀ {ks : List Str}, StrsAre vs ks → ∃ js, StrsAre us js ∧ js.Perm ks := by
 induction p with
 | nil => intro ks h; exact ⟨ks, h, .refl _⟩
 | cons x p ih =>
  intro ks h
  cases h with
  | cons y t h =>
   obtain ⟨js, h1, h2⟩ := ih h
   exact ⟨y :: js, .cons y t h1, h2.cons _⟩
 | swap x y l =>
  intro ks h
  cases h with
  | cons y t h =>
   cases h with
   | cons y2 t2 h => exact ⟨y2 :: y :: _, .cons _ _ (.cons _ _ h), .swap _ _ _⟩
 | trans p1 p2 ih1 ih2 =>
  intro ks h
  obtain ⟨js, h1, h2⟩ := ih2 h
  obtain ⟨is, h3, h4⟩ := ih1 h1
  exact ⟨is, h3, h4.trans h2⟩
theorem zcK : ∀ {vs : List Value} {ks : List Str}, StrsAre vs ks → ∀ k, k ∈ ks ↔ ∃ t, Value.str k t ∈ vs
 | _, _, .nil, k => by simp
 | _, _, .cons y t h, k => by
  rw [List.mem_cons, zcK h k]
  constructor
  · rintro (rfl | ⟨u, hu⟩)
    · exact ⟨t, .head _⟩
    · exact ⟨u, .tail _ hu⟩
  · rintro ⟨u, hu⟩
    cases hu with
    | head => exact .inl rfl
    | tail _ hu => exact .inr ⟨u, hu⟩
theorem zge {prog : Program} {w : World} (k : Str) (t : Tok) : (strKind prog w).is k (.str k t) = true := by
 show Value.isStrOf k (.str k t) = true
 simp [Value.isStrOf]
theorem ziv (h : Heap) (a : Addr) (es es' : Array (Int × Value)) (ep : Nat) (t t' : SetTable) (ho : h.get? a = some { cls := .type "set", dict := none, data := .set es ep t }) :
 (h.update a (Obj.putSet es' t')).get? a = some { cls := .type "set", dict := none, data := .set es' (ep + 1) t' } := by
 have := Heap.get?_update_self (Obj.putSet es' t') ho (by rw [putSet_of es' t' (o := { cls := .type "set", dict := none, data := .set es ep t }) rfl]; rfl)
 rw [putSet_of es' t' (o := { cls := .type "set", dict := none, data := .set es ep t }) rfl] at this
 exact this
section
variable {prog : Program} {w : World} {A : Around} {E : Value → Shared → Prop} {s : Shared}
theorem zjB {a : Addr} {ks : List Str} {k : Str} {tk : Tok} {Q : Bool → Shared → Prop} (hS : TxSet prog w s.heap a ks) (hroom : ks.length + 1 < scanBound)
 (h : ∀ h' ks', Heap.SameBut a s.heap h' → TxSet prog w h' a ks' → ks'.length ≤ ks.length + 1 → (∀ x, x ∈ ks' ↔ x ∈ ks ∨ x = k) → ∀ b, Q b { s with heap := h' }) :
 wpAny (model prog w) A (setAddHashed a (.str k tk) ((strKind prog w).hash k)) Q E s := by
 obtain ⟨⟨es, ep, t, ho, hel, hks, hf, hled, hpl⟩, hnd, hfew⟩ := hS
 have hsz : es.size = ks.length := by rw [← zb2 hks, List.length_map, Array.length_toList]
 have hb : es.size < scanBound := by rw [hsz]; exact hfew
 have hkey : (strKind prog w).is k (.str k tk) = true := zge k tk
 unfold setAddHashed setAddHashedIn
 refine wpAny_holding (wpAny_bind (wpAny_setState_of ho rfl hf ?_))
 dsimp only
 rw [byScan_of (knd := strKind prog w) rfl hb hel]
 simp only [↓reduceIte]
 unfold setAddByScan
 refine wpAny_bind ?_
 refine wpAny_bind (wpAny_rule ?_)
 refine wpAny_bind (wpAny_setScan_of (knd := strKind prog w) hkey ho rfl hf hel ?_)
 have isk : ∀ e ∈ es.toList, (strKind prog w).is k e.2 = true → k ∈ ks := fun e he q => by
  obtain ⟨t', q'⟩ := Value.isStrOf_shape q
  exact (zcK hks k).mpr ⟨t', by rw [← q']; exact List.mem_map_of_mem he⟩
 cases hr : List.findIdx? (fun e => (strKind prog w).is k e.2) es.toList with
 | some j =>
  dsimp only
  obtain ⟨hj, hpj, _⟩ := List.findIdx?_eq_some_iff_getElem.mp hr
  have hk : k ∈ ks := isk _ (List.getElem_mem hj) hpj
  refine wpAny_pure (wpAny_pure ?_)
  exact h s.heap ks (Heap.SameBut.refl a s.heap) ⟨⟨es, ep, t, ho, hel, hks, hf, hled, hpl⟩, hnd, hfew⟩ (Nat.le_succ _) (fun x => ⟨.inl, fun q => q.elim id fun e => e ▸ hk⟩) _
 | none =>
  dsimp only
  have hk : k ∉ ks := fun hm => by
   obtain ⟨t', ht⟩ := (zcK hks k).mp hm
   obtain ⟨e, he, q⟩ := List.mem_map.mp ht
   have := List.findIdx?_eq_none_iff.mp hr e he
   rw [q, zge] at this
   cases this
  have hgw : ∀ (b : Bool) {s₁ : Shared} {Q' : Unit → Shared → Prop}, Q' () s₁ → wpAny (model prog w) A (match b with | true => rule "set.scan.the-table-gave-way" | false => pure ()) Q' E s₁ :=
   fun b s₁ Q' hq => by cases b <;> first | exact wpAny_pure hq | exact wpAny_rule hq
  have hperm := layNew_perm t es ((strKind prog w).hash k) (.str k tk)
  have hfits := layNew_fits t es ((strKind prog w).hash k) (.str k tk)
  have hl1 := zkY t es ((strKind prog w).hash k) (.str k tk)
  have hp1 := ziT t es ((strKind prog w).hash k) (.str k tk)
  generalize hL : layNew t es ((strKind prog w).hash k) (.str k tk) = L at hperm hfits hl1 hp1 ⊢
  obtain ⟨es1, t1, wasDummy, gave⟩ := L
  dsimp only at hperm hfits hl1 hp1 ⊢
  rw [Array.toList_push] at hperm
  have hel1 : ElemsOf (strKind prog w) es1.toList := (hel.push hkey rfl).perm hperm
  have h0 : StrsAre ((es.toList ++ [((strKind prog w).hash k, Value.str k tk)]).map (·.2)) (ks ++ [k]) := by
   rw [List.map_append]
   exact zdI hks (.cons k tk .nil)
  obtain ⟨k1, hk1, hkp1⟩ := zcj (hperm.map (·.2)) h0
  have hsz1 : es1.size = ks.length + 1 := by rw [← Array.length_toList, hperm.length_eq, List.length_append, Array.length_toList, hsz]; rfl
  have nd0 : (ks ++ [k]).Nodup := by
   rw [List.nodup_append]
   exact ⟨hnd, by simp, fun x hx y hy => by rw [List.mem_singleton] at hy; subst hy; exact fun e => hk (e ▸ hx)⟩
  have fin : ∀ (h' : Heap) (es2 : Array (Int × Value)) (ep2 : Nat) (t2 : SetTable), Heap.SameBut a s.heap h' → h'.get? a = some { cls := .type "set", dict := none, data := .set es2 ep2 t2 } → es2.toList.Perm es1.toList → t2.fits es2.size = true →
   t2.led = t.led → t2.plain = false → ∀ b, Q b { s with heap := h' } := fun h' es2 ep2 t2 sb ho2 p2 f2 l2 pl2 b => by
   obtain ⟨k2, hk2, hkp2⟩ := zcj (p2.map (·.2)) hk1
   have hp : k2.Perm (ks ++ [k]) := hkp2.trans hkp1
   have hlen : k2.length = ks.length + 1 := by rw [hp.length_eq, List.length_append]; rfl
   refine h h' k2 sb ⟨⟨es2, ep2, t2, ho2, hel1.perm p2, hk2, f2, l2.trans hled, .inr pl2⟩, hp.nodup_iff.mpr nd0, by omega⟩ (by omega) (fun x => ?_) b
   rw [hp.mem_iff, List.mem_append, List.mem_singleton]
  refine wpAny_bind (hgw _ ?_)
  have tail : ∀ (t2 : SetTable), t2.fits es1.size = true → t2.led = t.led → t2.plain = false → ∀ {R : Option Bool → Shared → Prop}, (∀ h', (∀ b, Q b { s with heap := h' }) → R (some true) { s with heap := h' }) →
   wpAny (model prog w) A (do
    storeSet a es1 t2
    if (!wasDummy && t2.tooFull) = true then do
        (match (relayAll t2 es1 (SetTable.grown es1.size)).2.2 with | true => rule "set.scan.the-table-gave-way" | false => pure ())
        storeSet a (relayAll t2 es1 (SetTable.grown es1.size)).1 (relayAll t2 es1 (SetTable.grown es1.size)).2.1
        pure (some true)
     else pure (some true)) R E s := by
   intro t2 f2 l2 pl2 R hR
   refine wpAny_bind (wpAny_storeSet_of ho rfl ?_ (fits_of_scanBound (by omega)))
   have ho1 := ziv s.heap a es es1 ep t t2 ho
   have sb1 := Heap.SameBut.update s.heap a (Obj.putSet es1 t2)
   split
   · have hp := relayAll_perm t2 es1 (SetTable.grown es1.size)
     have hfr := relayAll_fits t2 es1 (SetTable.grown es1.size)
     have hl2 := ziu t2 es1 (SetTable.grown es1.size)
     have hp2 := zgu t2 es1 (SetTable.grown es1.size) pl2
     generalize hRl : relayAll t2 es1 (SetTable.grown es1.size) = Rl at hp hfr hl2 hp2 ⊢
     obtain ⟨es2, t3, gave2⟩ := Rl
     dsimp only at hp hfr hl2 hp2 ⊢
     have hs2 : es2.size = es1.size := by rw [← Array.length_toList, hp.length_eq, Array.length_toList]
     refine wpAny_bind (hgw _ ?_)
     refine wpAny_bind (wpAny_storeSet_of ho1 rfl ?_ (fits_of_scanBound (by omega)))
     exact wpAny_pure (hR _ (fin _ es2 _ t3 (sb1.trans (Heap.SameBut.update _ a _)) (ziv _ a es1 es2 (ep + 1) t2 t3 ho1) hp hfr (hl2.trans l2) hp2))
   · exact wpAny_pure (hR _ (fin _ es1 _ t2 sb1 ho1 (.refl _) f2 l2 pl2))
  split
  · refine wpAny_bind ?_
    rw [hashByValue_scannable 8 (x := .str k tk) rfl]
    refine wpAny_pure ?_
    exact tail { t1 with plain := false } (SetTable.fits_plain_off hfits) hl1 rfl fun h' q => wpAny_pure (q _)
  · rename_i hnp
    refine wpAny_bind (wpAny_pure ?_)
    simp only [↓reduceIte]
    exact tail t1 hfits hl1 (by simpa using hnp) fun h' q => wpAny_pure (q _)
end
theorem TxSet.kept {prog : Program} {w : World} {h h' : Heap} {a : Addr} {ks : List Str} (T : TxSet prog w h a ks) (k : ∀ o, h.get? a = some o → h'.get? a = some o) : TxSet prog w h' a ks := by
 obtain ⟨⟨es, ep, t, ho, r⟩, b, c⟩ := T
 exact ⟨⟨es, ep, t, k _ ho, r⟩, b, c⟩
section
variable {prog : Program} {w : World} {A : Around} {R : Result → Shared → Prop} {I : Addr} {fp wr : List Addr} {G : Array GenState → Array GenState → Prop} {P : Nat → Value → Prop} {St : Nat → Shared → Prop}
end
section
variable {prog : Program} {w : World} {A : Around} {E : Value → Shared → Prop} {s : Shared}
theorem zhA {h : Heap} {a : Addr} (e : h.get? a = some { cls := .type "set", dict := none, data := .set #[] 0 (.fresh 0 0 (!byTx w)) }) : TxSet prog w h a [] :=
 ⟨⟨#[], 0, _, e, fun e he => by simp at he, .nil, rfl, rfl, .inl rfl⟩, List.nodup_nil, by decide⟩
end
section
variable {prog : Program} {w : World} {A : Around} {E : Value → Shared → Prop} {s : Shared}
end
theorem zht {M : Model} {A : Around} {E : Value → Shared → Prop} {s : Shared} {src : Source} {n : Nat} {Q : Nat → Shared → Prop} (hn : 0 < n) (h : ∀ i d', i < n → Q i { s with drawn := d' }) :
 wpAny M A (choose src n) Q E s := fun Γ p hΓ => by
 show Sem.wp M Γ (.choose src n .pure) _ _ p s
 rw [Sem.wp_choose]
 exact ⟨by omega, h _ _ (Nat.mod_lt _ hn)⟩
theorem zdo {α : Type} : ∀ {l : List α} {i : Nat} {x : α}, l[i]? = some x → (x :: l.eraseIdx i).Perm l
 | [], i, x, h => by simp at h
 | y :: l, 0, x, h => by simp at h; subst h; exact .refl _
 | y :: l, i + 1, x, h => by
  rw [List.getElem?_cons_succ] at h
  rw [List.eraseIdx_cons_succ]
  exact (List.Perm.swap _ _ _).trans ((zdo h).cons _)
theorem zg7 {M : Model} {A : Around} {E : Value → Shared → Prop} {α : Type} : ∀ (n : Nat) (xs : List α) (s : Shared) {Q : List α → Shared → Prop}, xs.length ≤ n → (∀ ys d', ys.Perm xs → Q ys { s with drawn := d' }) →
 wpAny M A (drawOrder n xs) Q E s
 | 0, xs, s, Q, hn, h => by
  have : xs = [] := List.length_eq_zero_iff.mp (Nat.le_zero.mp hn)
  subst this
  exact wpAny_pure (h [] s.drawn (.refl _))
 | n + 1, [], s, Q, hn, h => wpAny_pure (h [] s.drawn (.refl _))
 | n + 1, x :: xs, s, Q, hn, h => by
  show wpAny M A (choose .order (x :: xs).length >>= _) Q E s
  refine wpAny_bind (zht (by simp) fun i d1 hi => ?_)
  have hx : (x :: xs)[i]? = some (x :: xs)[i] := List.getElem?_eq_getElem hi
  rw [hx]
  show wpAny M A (drawOrder n ((x :: xs).eraseIdx i) >>= _) Q E _
  have hl : ((x :: xs).eraseIdx i).length ≤ n := by
   rw [List.length_eraseIdx, if_pos hi]
   simp at hn ⊢
   omega
  refine wpAny_bind (zg7 n _ _ hl fun ys d2 hp => wpAny_pure ?_)
  exact h _ d2 ((hp.cons _).trans (zdo hx))
theorem ziz {α : Type} (next : Nat → Nat) : ∀ (n k : Nat) (left : List α) (out : Array α), left.length ≤ n → ((pickOrder.go next n k left out).toList).Perm (out.toList ++ left)
 | 0, k, left, out, h => by
  have : left = [] := List.length_eq_zero_iff.mp (Nat.le_zero.mp h)
  subst this
  simp [pickOrder.go]
 | n + 1, k, left, out, h => by
  unfold pickOrder.go
  split
  · rename_i x hx
    have hlt : next k % left.length < left.length := (List.getElem?_eq_some_iff.mp hx).1
    refine (ziz next n (k + 1) _ _ ?_).trans ?_
    · rw [List.length_eraseIdx, if_pos hlt]; omega
    · rw [Array.toList_push, List.append_assoc]
      exact List.Perm.append_left _ (zdo hx)
  · rename_i hx
    cases left with
    | nil => simp
    | cons y l =>
     have : next k % (y :: l).length < (y :: l).length := Nat.mod_lt _ (by simp)
     rw [List.getElem?_eq_getElem this] at hx
     cases hx
theorem zfw {α : Type} (next : Nat → Nat) (xs : Array α) : ((pickOrder next xs).toList).Perm xs.toList := by
 have := ziz next xs.size 0 xs.toList #[] (by simp)
 simpa [pickOrder] using this
theorem zgp (a : Addr) : setDrawn a = (do
 let (es, _, t) ← setState a
 let byText ← setsByText
 return !byText && (!t.plain && decide (es.size > 1))) := rfl
theorem zct (a : Addr) (slot given epochThen : Nat) : setNext a slot given epochThen = (do
 let (es, epoch, t) ← setState a
 if ← setsByText then
  if epoch != epochThen then unsupported "set_iterator.__next__:elements-changed"
  return ((← setWalk a)[given]?).map fun e => (e.2, slot)
 if (!t.plain && decide (es.size > 1)) then unsupported "set_iterator.__next__:the-table-is-plain-no-more"
 (do if !t.led && !es.isEmpty then unsupported "set:maker-not-led" : Sem Unit)
 let i := SetTable.below t.place slot
 return match es[i]?, t.place[i]? with
  | some (_, x), some j => some (x, j + 1)
  | _, _ => none) := rfl
namespace FS
theorem entry_set_iter : entryFor table "set.__iter__" = some Builtin.«frozenset.__iter__» := entryFor_alias (id' := "frozenset.__iter__") (by kernel_rfl) rfl (by decide +kernel) (by kernel_rfl)
theorem slot_si_next : Slot "set_iterator" "__next__" "set_iterator.__next__" :=
 .of (owner := "set_iterator") (n := "__next__") (by rw [typeLookup_type, builtinLookup_eq_fast]; kernel_rfl) (by decide +kernel) (by decide +kernel) (by decide +kernel)
  (by first | exact .inl (by decide +kernel) | exact .inr (by decide +kernel)) (by rw [isSubtype_type]; kernel_rfl)
theorem entry_si_next : entryFor table "set_iterator.__next__" = some Builtin.«set_iterator.__next__» := entryFor_of_tree (by kernel_rfl)
theorem args_si_next (a : Value) : argsOk "set_iterator.__next__" ⟨[a], []⟩ := by unfold argsOk; kernel_rfl
theorem slot_si_iter : Slot "set_iterator" "__iter__" "set_iterator.__iter__" :=
 .of (owner := "set_iterator") (n := "__iter__") (by rw [typeLookup_type, builtinLookup_eq_fast]; kernel_rfl) (by decide +kernel) (by decide +kernel) (by decide +kernel)
  (by first | exact .inl (by decide +kernel) | exact .inr (by decide +kernel)) (by rw [isSubtype_type]; kernel_rfl)
theorem entry_si_iter : entryFor table "set_iterator.__iter__" = some Builtin.«dict_keyiterator.__iter__» :=
 entryFor_alias (id' := "dict_keyiterator.__iter__") (by kernel_rfl) rfl (by decide +kernel) (by kernel_rfl)
theorem args_si_iter (a : Value) : argsOk "set_iterator.__iter__" ⟨[a], []⟩ := by unfold argsOk; kernel_rfl
end FS
abbrev zcr (h : Heap) (I a : Addr) (first : Value) (i n ep : Nat) : Prop :=
 h.get? I = some { cls := .type "set_iterator", dict := none, data := .fields #[first, .int i 0, .ref a, .int n 0, .int ep 0] }
inductive SOrd (w : World) (a : Addr) (es : Array (Int × Value)) (ep : Nat) (t : SetTable) : (Nat → Value) → List Value → List (Addr × Obj) → Prop
 | drawn (T : Addr) (places : List Nat) (h0 : byTx w = false) (hp : places.Perm (List.range es.size)) (h2 : 1 < es.size) :
  SOrd w a es ep t (fun _ => .ref T) (places.filterMap fun p => (es[p]?).map (·.2)) [(T, { cls := .type "tuple", data := .seq (places.map fun (i : Nat) => rawInt i).toArray })]
 | text (h0 : byTx w = true) : SOrd w a es ep t (fun _ => rawInt 0) ((pickOrder (w.params.setOrder a ep) es).toList.map (·.2)) []
 | few (h0 : byTx w = false) (h2 : es.size ≤ 1) : SOrd w a es ep t (fun i => rawInt (if i = 0 then 0 else t.place.getD 0 0 + 1)) (es.toList.map (·.2)) []
theorem zj3 (es : Array (Int × Value)) : ((List.range es.size).filterMap fun p => (es[p]?).map (·.2)) = es.toList.map (·.2) := by
 have := filterMap_getElem?_range es
 rw [← this, List.map_filterMap]
theorem SOrd.perm {w : World} {a : Addr} {es : Array (Int × Value)} {ep : Nat} {t : SetTable} {f : Nat → Value} {vs : List Value} {ob : List (Addr × Obj)} (h : SOrd w a es ep t f vs ob) : vs.Perm (es.toList.map (·.2)) := by
 cases h with
 | drawn T places h0 hp h2 => rw [← zj3]; exact hp.filterMap _
 | text h0 => exact (zfw _ _).map _
 | few h0 h2 => exact .refl _
section
variable {prog : Program} {w : World} {A : Around} {E : Value → Shared → Prop} {s : Shared}
theorem zbc {Q : Bool → Shared → Prop} (h : Q (byTx w) s) : wpAny (model prog w) A setsByText Q E s := by
 unfold setsByText
 exact wpAny_bind (wpAny_askSetting (wpAny_pure h))
theorem ziY {a : Addr} {es : Array (Int × Value)} {ep : Nat} {t : SetTable} {Q : Value → Shared → Prop} (ho : s.heap.get? a = some { cls := .type "set", dict := none, data := .set es ep t })
 (hf : t.fits es.size = true) (hp : es.size = 0 ∨ t.plain = false) (hz : es.size ≤ sizeLine)
 (hQ : ∀ h' d' I f vs ob, SOrd w a es ep t f vs ob → s.heap.objs.size ≤ I → zcr h' I a (f 0) 0 es.size ep → (∀ p ∈ ob, h'.get? p.1 = some p.2 ∧ s.heap.objs.size ≤ p.1 ∧ p.1 ≠ I) → (∀ b o, s.heap.get? b = some o → h'.get? b = some o) →
  I < h'.objs.size → (∀ p ∈ ob, p.1 < h'.objs.size) → Q (.ref I) { s with heap := h', drawn := d' }) :
 wpAny (model prog w) A (pyIter (.ref a)) Q E s := by
 have hT : s.TypeIs (.ref a) "set" := ⟨_, ho, rfl⟩
 refine wpAny_pyIter_slot hT PySem.F.slot_set_iter (wpAny_call_entry PySem.F.slot_set_iter hT FS.entry_set_iter ?_ (PySem.F.args_set_iter_1 _))
 unfold Builtin.«frozenset.__iter__» Builtin.Frozenset.slot0 Builtin.Frozenset.sizeOf
 refine wpAny_bind (wpAny_bind (m := slotArgs _ _ _) (wpAny_pure (wpAny_pure ?_)))
 refine wpAny_bind (wpAny_bind (wpAny_setEntries_of ho rfl hf (wpAny_pure ?_)))
 dsimp only
 rw [zgp]
 refine wpAny_bind (wpAny_bind (wpAny_setState_of ho rfl hf (wpAny_bind (zbc (wpAny_pure ?_)))))
 by_cases hd : (!byTx w && (!t.plain && decide (es.size > 1))) = true
 · rw [if_pos hd]
   have hd' : byTx w = false ∧ 1 < es.size := by
    simp only [Bool.and_eq_true, Bool.not_eq_true', decide_eq_true_eq] at hd
    exact ⟨hd.1, hd.2.2⟩
   refine wpAny_bind (zg7 _ _ _ (by simp) fun ys d' hy => ?_)
   refine wpAny_bind (wpAny_newTuple ?_ (by rw [List.length_map, hy.length_eq, List.length_range]; exact hz))
   have ho2 : (s.heap.push { cls := .type "tuple", data := .seq (ys.map fun (i : Nat) => rawInt i).toArray }).get? a = some { cls := .type "set", dict := none, data := .set es ep t } := Heap.get?_push_of_some _ ho
   refine wpAny_bind (wpAny_setEpoch_of (s := { s with drawn := d', heap := s.heap.push { cls := .type "tuple", data := .seq (ys.map fun (i : Nat) => rawInt i).toArray } }) ho2 rfl hf ?_)
   refine wpAny_bind (wpAny_newObj_type (wpAny_pure ⟨_, rfl, "set_iterator", _, ⟨_, Heap.get?_push_size _ rfl, rfl⟩, FS.slot_si_next.lookup, ?_⟩))
   refine hQ _ d' _ _ _ _ (.drawn s.heap.objs.size ys hd'.1 hy hd'.2) ?_ (Heap.get?_push_size _ rfl) (fun p hp => ?_) (fun b o e => Heap.get?_push_of_some _ (Heap.get?_push_of_some _ e)) ?_ (fun p hp => ?_)
   · rw [Heap.size_push]; exact Nat.le_succ _
   · rw [List.mem_singleton] at hp
     subst hp
     exact ⟨Heap.get?_push_of_some _ (Heap.get?_push_size _ rfl), Nat.le_refl _, by rw [Heap.size_push]; exact Nat.ne_of_lt (Nat.lt_succ_self _)⟩
   · simp only [Heap.size_push]; omega
   · rw [List.mem_singleton] at hp
     subst hp
     show s.heap.objs.size < _
     simp only [Heap.size_push]; omega
 · rw [if_neg hd]
   refine wpAny_bind (wpAny_pure ?_)
   refine wpAny_bind (wpAny_setEpoch_of ho rfl hf ?_)
   refine wpAny_bind (wpAny_newObj_type (wpAny_pure ⟨_, rfl, "set_iterator", _, ⟨_, Heap.get?_push_size _ rfl, rfl⟩, FS.slot_si_next.lookup, ?_⟩))
   cases hb : byTx w with
   | true =>
    exact hQ _ s.drawn _ _ _ _ (.text hb) (Nat.le_refl _) (Heap.get?_push_size _ rfl) (fun p hp => nomatch hp) (fun b o e => Heap.get?_push_of_some _ e) (by rw [Heap.size_push]; exact Nat.lt_succ_self _) (fun p hp => nomatch hp)
   | false =>
    refine hQ _ s.drawn _ _ _ _ (.few hb ?_) (Nat.le_refl _) (Heap.get?_push_size _ rfl) (fun p hp => nomatch hp) (fun b o e => Heap.get?_push_of_some _ e) (by rw [Heap.size_push]; exact Nat.lt_succ_self _) (fun p hp => nomatch hp)
    rcases hp with h | h
    · omega
    · simp [hb, h] at hd
      exact hd
end
section
variable {prog : Program} {w : World} {A : Around} {E : Value → Shared → Prop} {s : Shared}
def SSt (w : World) (I a : Addr) (es : Array (Int × Value)) (ep : Nat) (t : SetTable) (f : Nat → Value) (ob : List (Addr × Obj)) (i : Nat) (h : Heap) : Prop :=
 zcr h I a (f i) i es.size ep ∧ h.get? a = some { cls := .type "set", dict := none, data := .set es ep t } ∧ ∀ p ∈ ob, h.get? p.1 = some p.2
theorem zf7 (p : Nat) : SetTable.below #[p] 0 = 0 ∧ SetTable.below #[p] (p + 1) = 1 := by
 constructor
 · simp [SetTable.below, SetTable.below.go]
 · simp [SetTable.below, SetTable.below.go]
theorem zbP {h : Heap} {I a : Addr} {first x : Value} {i n ep k : Nat} (hi : zcr h I a first i n ep) (f : Array Value → Array Value) :
 (h.update I (Obj.mapFields f)).get? I = some { cls := .type "set_iterator", dict := none, data := .fields (f #[first, .int i 0, .ref a, .int n 0, .int ep 0]) } := by
 have := Heap.get?_update_self (Obj.mapFields f) hi rfl
 exact this
set_option maxHeartbeats 1000000 in
theorem ziG {I a : Addr} {es : Array (Int × Value)} {ep : Nat} {t : SetTable} {f : Nat → Value} {vs : List Value} {ob : List (Addr × Obj)} {i : Nat} {v : Value} {Q : Option Value → Shared → Prop}
 (hO : SOrd w a es ep t f vs ob) (hf : t.fits es.size = true) (hl : t.led = !byTx w) (hne : a ≠ I) (hob : ∀ p ∈ ob, p.1 ≠ I) (hS : SSt w I a es ep t f ob i s.heap) (hv : vs[i]? = some v)
 (hQ : ∀ h', SSt w I a es ep t f ob (i + 1) h' → Heap.SameBut I s.heap h' → Q (some v) { s with heap := h' }) :
 wpAny (model prog w) A (pyNext (.ref I)) Q E s := by
 obtain ⟨hi, ha, hbs⟩ := hS
 have hT : s.TypeIs (.ref I) "set_iterator" := ⟨_, hi, rfl⟩
 unfold pyNext
 refine wpAny_bind (wpAny_attempt (wpAny_callSpecial?_slot (name := Str.ofString "__next__") hT FS.slot_si_next
  (wpAny_call_entry FS.slot_si_next hT FS.entry_si_next ?_ (FS.args_si_next _))))
 unfold Builtin.«set_iterator.__next__»
 refine wpAny_bind (m := slotArgs _ _ _) (wpAny_pure ?_)
 dsimp only
 refine wpAny_bind (wpAny_fieldsOf hi rfl ?_)
 dsimp only
 refine wpAny_bind (wpAny_setEntries_of ha rfl hf ?_)
 rw [if_neg (by simp)]
 have hil : i < vs.length := (List.getElem?_eq_some_iff.mp hv).1
 have fin : ∀ (first : Value) (h' : Heap), Heap.SameBut I s.heap h' → zcr h' I a (f (i + 1)) (i + 1) es.size ep → Q (some v) { s with heap := h' } := fun first h' sb hi' =>
  hQ h' ⟨hi', by rw [sb.2 a hne]; exact ha, fun p hp => by rw [sb.2 p.1 (hob p hp)]; exact hbs p hp⟩ sb
 cases hO with
 | drawn T places h0 hp h2 =>
  dsimp only
  have hTt := hbs _ (List.mem_singleton.mpr rfl)
  refine wpAny_bind (wpAny_seqItems hTt rfl ?_)
  have hpl : places.length = es.size := by rw [hp.length_eq, List.length_range]
  have hall : ∀ p ∈ places, p < es.size := fun p hm => by simpa using hp.mem_iff.mp hm
  have hfm : ∀ (l : List Nat), (∀ p ∈ l, p < es.size) → (l.filterMap fun p => (es[p]?).map (·.2)) = l.map fun p => (es.getD p (0, .none)).2 := by
   intro l
   induction l with
   | nil => intro _; rfl
   | cons q l ih =>
    intro hq
    have hq0 : q < es.size := hq q (by simp)
    have h1 : es[q]? = some es[q] := Array.getElem?_eq_getElem hq0
    rw [List.filterMap_cons, h1, List.map_cons, ← ih fun p hm => hq p (by simp [hm])]
    simp [Array.getD, hq0]
  rw [hfm places hall, List.getElem?_map] at hv
  cases hpi : places[i]? with
  | none => rw [hpi] at hv; cases hv
  | some pl =>
   rw [hpi] at hv
   have hlt : pl < es.size := hall pl (List.mem_of_getElem? hpi)
   have hvv : v = es[pl].2 := by
    have : (es.getD pl (0, .none)).2 = v := Option.some.inj hv
    rw [← this]
    simp [Array.getD, hlt]
   have hpi' : (places.map fun (i : Nat) => rawInt i).toArray[i]? = some (.int pl 0) := by
    rw [List.getElem?_toArray, List.getElem?_map, hpi]; rfl
   show wpAny _ _ (match (places.map fun (i : Nat) => rawInt i).toArray[(i : Int).toNat]? with | some (.int place _) => _ | some _ => _ | none => _) _ _ _
   rw [Int.toNat_natCast, hpi']
   dsimp only
   unfold setNextDrawn
   refine wpAny_bind (wpAny_bind (wpAny_setState_of ha rfl hf ?_))
   dsimp only
   rw [if_neg (by simp)]
   rw [Int.toNat_natCast, Array.getElem?_eq_getElem hlt]
   dsimp only
   refine wpAny_pure ?_
   refine wpAny_bind (wpAny_setField hi rfl (by simp) ?_)
   refine wpAny_pure ⟨_, rfl, wpAny_pure ?_⟩
   rw [← hvv]
   exact fin v _ (Heap.SameBut.update ..) (zbP (x := v) (k := 0) hi _)
 | text h0 =>
  show wpAny _ _ (setNext a 0 (i : Int).toNat (ep : Int).toNat >>= _) _ _ _
  rw [zct, Int.toNat_natCast, Int.toNat_natCast]
  refine wpAny_bind (wpAny_bind (wpAny_setState_of ha rfl hf (wpAny_bind (zbc ?_))))
  rw [if_pos h0]
  dsimp only
  rw [if_neg (by simp)]
  unfold setWalk
  refine wpAny_bind (wpAny_bind (wpAny_setState_of ha rfl hf (wpAny_bind (zbc ?_))))
  rw [if_pos h0]
  refine wpAny_bind (wpAny_askSetting (wpAny_pure (wpAny_pure ?_)))
  rw [List.getElem?_map, Array.getElem?_toList] at hv
  cases hpk : (pickOrder (w.params.setOrder a ep) es)[i]? with
  | none => rw [hpk] at hv; cases hv
  | some e =>
   rw [hpk] at hv
   show wpAny _ _ (match ((pickOrder (w.params.setOrder a ep) es)[i]?).map fun e => (e.2, 0) with | some (x, next) => _ | none => _) _ _ _
   rw [hpk]
   have hvv : e.2 = v := Option.some.inj hv
   dsimp only [Option.map]
   refine wpAny_bind (wpAny_setField hi rfl (by simp) ?_)
   have hi1 := zbP (x := v) (k := 0) hi (·.setIfInBounds 0 (rawInt (0 : Nat)))
   refine wpAny_bind (wpAny_setField (s := { s with heap := s.heap.update I (Obj.mapFields (·.setIfInBounds 0 (rawInt (0 : Nat)))) }) hi1 rfl (by simp) ?_)
   refine wpAny_pure ⟨_, rfl, wpAny_pure ?_⟩
   rw [hvv]
   refine fin v _ ((Heap.SameBut.update ..).trans (Heap.SameBut.update ..)) ?_
   exact zbP (x := v) (k := 0) (i := i) (first := rawInt 0) (n := es.size) (ep := ep) (a := a) (by exact hi1) _
 | few h0 h2 =>
  have hi0 : i = 0 := by rw [List.length_map, Array.length_toList] at hil; omega
  subst hi0
  have hsz : es.size = 1 := by rw [List.length_map, Array.length_toList] at hil; omega
  show wpAny _ _ (setNext a 0 (0 : Int).toNat (ep : Int).toNat >>= _) _ _ _
  rw [zct, Int.toNat_natCast]
  refine wpAny_bind (wpAny_bind (wpAny_setState_of ha rfl hf (wpAny_bind (zbc ?_))))
  rw [if_neg (by rw [h0]; simp)]
  dsimp only
  rw [if_neg (by simp [hsz])]
  rw [hl, h0]
  refine wpAny_bind (m := ite _ _ _) ?_
  rw [if_neg (by simp)]
  refine wpAny_pure ?_
  obtain ⟨p, hpp⟩ : ∃ p, t.place = #[p] := by
   have h1 : t.place.size = 1 := by
    simp only [SetTable.fits, Bool.and_eq_true, beq_iff_eq] at hf
    rw [hf.1, hsz]
   generalize t.place = tp at h1
   obtain ⟨pl⟩ := tp
   cases pl with
   | nil => simp at h1
   | cons p r => cases r with
    | nil => exact ⟨p, rfl⟩
    | cons q r => simp at h1
  obtain ⟨⟨eh, ev⟩, hes⟩ : ∃ e, es = #[e] := by
   obtain ⟨el⟩ := es
   cases el with
   | nil => simp at hsz
   | cons p r => cases r with
    | nil => exact ⟨p, rfl⟩
    | cons q r => simp at hsz
  subst hes
  have hvv : ev = v := by simpa using hv
  subst hvv
  rw [hpp, (zf7 p).1]
  refine wpAny_pure ?_
  show wpAny _ _ (setField (.ref I) 0 (rawInt ((p + 1 : Nat) : Int)) >>= _) _ _ _
  refine wpAny_bind (wpAny_setField hi rfl (by simp) ?_)
  have hi1 := zbP (x := ev) (k := 0) hi (·.setIfInBounds 0 (rawInt ((p + 1 : Nat) : Int)))
  refine wpAny_bind (wpAny_setField (s := { s with heap := s.heap.update I (Obj.mapFields (·.setIfInBounds 0 (rawInt ((p + 1 : Nat) : Int)))) }) hi1 rfl (by simp) ?_)
  refine wpAny_pure ⟨_, rfl, wpAny_pure ?_⟩
  refine fin ev _ ((Heap.SameBut.update ..).trans (Heap.SameBut.update ..)) ?_
  have := zbP (x := ev) (k := 0) (i := 0) (first := rawInt ((p + 1 : Nat) : Int)) (n := 1) (ep := ep) (a := a) (by exact hi1) (·.setIfInBounds 1 (rawInt ((0 : Nat) + 1 : Int)))
  rw [hpp]
  exact this
end
section
variable {prog : Program} {w : World} {A : Around} {E : Value → Shared → Prop} {s : Shared}
theorem zet {h1 : Heap} {I : Addr} {P : Fin → Shared → Prop} {Q : Option Value → Shared → Prop} (hh : A.handled = none) (sb : Heap.SameBut I s.heap h1) (hQ : ∀ h', Heap.ExtBut I s.heap h' → Q none { s with heap := h' }) :
 wpAny (model prog w) A.in1 (newExc (.type "StopIteration") [] >>= fun x => raiseNew x) P
  (fun e s' => wpAny (model prog w) A (do if ← isInstance e (.type "StopIteration") then pure none else throw e) Q E s') { s with heap := h1 } := by
 refine wpAny_bind ?_
 simp only [newExc, newTuple]
 refine wpAny_bind (wpAny_newObj_type ?_ (by size_fits))
 refine wpAny_bind (m := firstArgMember _ _) (wpAny_of_eq (a := Value.none) (by first | rfl | (simp only [firstArgMember]; rfl)) ?_)
 refine wpAny_newObj_type ?_ (by size_fits)
 simp only [raiseNew]
 refine wpAny_bind (wpAny_handled ?_)
 rw [show A.in1.handled = none from hh]
 refine wpAny_bind (wpAny_pure (wpAny_throw ?_))
 refine wpAny_bind (wpAny_isInstance (T := "StopIteration") (b := true) ⟨_, Heap.get?_push_size _ rfl, rfl⟩ isSubtype_stop ?_)
 exact wpAny_pure (hQ _ ((sb.extBut.push _).push _))
set_option maxHeartbeats 1000000 in
theorem zj6 {I a : Addr} {es : Array (Int × Value)} {ep : Nat} {t : SetTable} {f : Nat → Value} {vs : List Value} {ob : List (Addr × Obj)} {Q : Option Value → Shared → Prop} (hh : A.handled = none)
 (hO : SOrd w a es ep t f vs ob) (hf : t.fits es.size = true) (hl : t.led = !byTx w) (hne : a ≠ I) (hob : ∀ p ∈ ob, p.1 ≠ I) (hS : SSt w I a es ep t f ob es.size s.heap)
 (hQ : ∀ h', Heap.ExtBut I s.heap h' → Q none { s with heap := h' }) :
 wpAny (model prog w) A (pyNext (.ref I)) Q E s := by
 obtain ⟨hi, ha, hbs⟩ := hS
 have hT : s.TypeIs (.ref I) "set_iterator" := ⟨_, hi, rfl⟩
 unfold pyNext
 refine wpAny_bind (wpAny_attempt (wpAny_callSpecial?_slot (name := Str.ofString "__next__") hT FS.slot_si_next
  (wpAny_call_entry FS.slot_si_next hT FS.entry_si_next ?_ (FS.args_si_next _))))
 unfold Builtin.«set_iterator.__next__»
 refine wpAny_bind (m := slotArgs _ _ _) (wpAny_pure ?_)
 dsimp only
 refine wpAny_bind (wpAny_fieldsOf hi rfl ?_)
 dsimp only
 refine wpAny_bind (wpAny_setEntries_of ha rfl hf ?_)
 rw [if_neg (by simp)]
 cases hO with
 | drawn T places h0 hp h2 =>
  dsimp only
  have hTt := hbs _ (List.mem_singleton.mpr rfl)
  refine wpAny_bind (wpAny_seqItems hTt rfl ?_)
  have hpl : places.length = es.size := by rw [hp.length_eq, List.length_range]
  have hpi' : (places.map fun (i : Nat) => rawInt i).toArray[es.size]? = none := by
   rw [List.getElem?_toArray, List.getElem?_map, List.getElem?_eq_none (by omega)]; rfl
  show wpAny _ _ (match (places.map fun (i : Nat) => rawInt i).toArray[(es.size : Int).toNat]? with | some (.int place _) => _ | some _ => _ | none => _) _ _ _
  rw [Int.toNat_natCast, hpi']
  dsimp only
  refine wpAny_bind (wpAny_setField hi rfl (by simp) ?_)
  have hi1 := zbP (x := .none) (k := 0) hi (·.setIfInBounds 0 (rawInt 0))
  refine wpAny_bind (wpAny_setField (s := { s with heap := s.heap.update I (Obj.mapFields (·.setIfInBounds 0 (rawInt 0))) }) hi1 rfl (by simp) ?_)
  exact zet (s := s) (I := I) hh ((Heap.SameBut.update ..).trans (Heap.SameBut.update ..)) hQ
 | text h0 =>
  show wpAny _ _ (setNext a 0 (es.size : Int).toNat (ep : Int).toNat >>= _) _ _ _
  rw [zct, Int.toNat_natCast, Int.toNat_natCast]
  refine wpAny_bind (wpAny_bind (wpAny_setState_of ha rfl hf (wpAny_bind (zbc ?_))))
  rw [if_pos h0]
  dsimp only
  rw [if_neg (by simp)]
  unfold setWalk
  refine wpAny_bind (wpAny_bind (wpAny_setState_of ha rfl hf (wpAny_bind (zbc ?_))))
  rw [if_pos h0]
  refine wpAny_bind (wpAny_askSetting (wpAny_pure (wpAny_pure ?_)))
  have hpk : (pickOrder (w.params.setOrder a ep) es)[es.size]? = none := by
   have h1 := (zfw (w.params.setOrder a ep) es).length_eq
   rw [Array.length_toList, Array.length_toList] at h1
   exact Array.getElem?_eq_none (by omega)
  show wpAny _ _ (match ((pickOrder (w.params.setOrder a ep) es)[es.size]?).map fun e => (e.2, 0) with | some (x, next) => _ | none => _) _ _ _
  rw [hpk]
  dsimp only [Option.map]
  refine wpAny_bind (wpAny_setField hi rfl (by simp) ?_)
  exact zet (s := s) (I := I) hh (Heap.SameBut.update ..) hQ
 | few h0 h2 =>
  show wpAny _ _ (setNext a (if es.size = 0 then (0 : Int) else (t.place.getD 0 0 : Int) + 1).toNat (es.size : Int).toNat (ep : Int).toNat >>= _) _ _ _
  rw [zct, Int.toNat_natCast]
  refine wpAny_bind (wpAny_bind (wpAny_setState_of ha rfl hf (wpAny_bind (zbc ?_))))
  rw [if_neg (by rw [h0]; simp)]
  dsimp only
  rw [if_neg (by simp; intro _; omega)]
  rw [hl, h0]
  refine wpAny_bind (m := ite _ _ _) ?_
  rw [if_neg (by simp)]
  refine wpAny_pure ?_
  have hps : t.place.size = es.size := by
   simp only [SetTable.fits, Bool.and_eq_true, beq_iff_eq] at hf
   exact hf.1
  have hnone : es[SetTable.below t.place (if es.size = 0 then (0 : Int) else (t.place.getD 0 0 : Int) + 1).toNat]? = none := by
   generalize t.place = tp at hps
   obtain ⟨pl⟩ := tp
   cases pl with
   | nil =>
    have : es.size = 0 := by simpa using hps.symm
    exact Array.getElem?_eq_none (by omega)
   | cons p r =>
    cases r with
    | nil =>
     have h1 : es.size = 1 := by simpa using hps.symm
     rw [if_neg (by omega)]
     have : ((([p].toArray).getD 0 0 : Nat) : Int) + 1 = ((p + 1 : Nat) : Int) := rfl
     rw [this, Int.toNat_natCast, (zf7 p).2]
     exact Array.getElem?_eq_none (by omega)
    | cons q r =>
     have : es.size = r.length + 2 := by simpa using hps.symm
     omega
  rw [hnone]
  refine wpAny_pure ?_
  show wpAny _ _ (setField (.ref I) 2 .none >>= _) _ _ _
  refine wpAny_bind (wpAny_setField hi rfl (by simp) ?_)
  exact zet (s := s) (I := I) hh (Heap.SameBut.update ..) hQ
theorem zim {I a : Addr} {first : Value} {i n ep : Nat} {Q : Value → Shared → Prop} (hi : zcr s.heap I a first i n ep) (h : Q (.ref I) s) : wpAny (model prog w) A (pyIter (.ref I)) Q E s := by
 have hT : s.TypeIs (.ref I) "set_iterator" := ⟨_, hi, rfl⟩
 refine wpAny_pyIter_slot hT FS.slot_si_iter (wpAny_call_entry FS.slot_si_iter hT FS.entry_si_iter ?_ (FS.args_si_iter _))
 show wpAny _ _ (ret (.ref I)) _ _ s
 exact wpAny_pure ⟨_, rfl, "set_iterator", _, hT, FS.slot_si_next.lookup, h⟩
end
theorem zhv {prog : Program} {w : World} {A : Around} {I a : Addr} {es : Array (Int × Value)} {ep : Nat} {t : SetTable} {f : Nat → Value} {vs : List Value} {ob : List (Addr × Obj)} (hh : A.handled = none)
 (hO : SOrd w a es ep t f vs ob) (hf : t.fits es.size = true) (hl : t.led = !byTx w) (hne : a ≠ I) (hob : ∀ p ∈ ob, p.1 ≠ I) :
 Walks prog w A I (I :: a :: ob.map (·.1)) [I] es.size (fun i v => vs[i]? = some v) (SSt w I a es ep t f ob) where
 sub := fun b hb => by simp at hb; simp [hb]
 frame := fun i h h' st hk => ⟨hk I (by simp) _ st.1, hk a (by simp) _ st.2.1, fun p hp => hk p.1 (by simp; exact .inr (.inr ⟨p.2, hp⟩)) _ (st.2.2 p hp)⟩
 item := fun i s Q E hi st hQ => by
  have hlen : vs.length = es.size := by rw [hO.perm.length_eq, List.length_map, Array.length_toList]
  refine ziG hO hf hl hne hob st (v := vs[i]'(by omega)) (List.getElem?_eq_getElem (by omega)) fun h' st' sb => ?_
  exact hQ _ h' s.toks (List.getElem?_eq_getElem (by omega)) st' fun b o hb e => sb.extBut b o (fun h => hb (by simp [h])) e
 done := fun s Q E st hQ => zj6 hh hO hf hl hne hob st fun h' he' => hQ h' s.toks fun b o hb e => he' b o (fun h => hb (by simp [h])) e
 self := fun _ _ _ _ st hQ => zim st.1 hQ
namespace FS
theorem set_len : typeLookup (.type "set") "__len__" = pure (some (.builtin "set.__len__")) := by rw [typeLookup_type, builtinLookup_eq_fast]; kernel_rfl
theorem split_set_len : splitId "set.__len__" = some ("set", "__len__") := by decide +kernel
end FS
section
variable {prog : Program} {w : World} {A : Around} {E : Value → Shared → Prop} {s : Shared}
theorem zi5 {a : Addr} {Q : Bool → Shared → Prop} (hT : s.TypeIs (.ref a) "set") (h : Q false s) : wpAny (model prog w) A (Builtin.List.listLengthHint (.ref a)) Q E s := by
 unfold Builtin.List.listLengthHint
 refine wpAny_bind (wpAny_specialOf hT FS.set_len ?_)
 dsimp only
 generalize hid : ("set.__len__" : String) = id0
 rw [show splitId id0 = some ("set", "__len__") from by subst hid; exact FS.split_set_len]
 subst hid
 dsimp only
 refine wpAny_bind (wpAny_isInstance (b := true) hT sub_set_self ?_)
 simp only [Bool.not_true, Bool.false_eq_true, if_false]
 refine wpAny_bind (wpAny_typeOf hT (wpAny_pure h))
set_option maxHeartbeats 1000000 in
theorem zfW {a : Addr} {ks : List Str} {Q : List Value → Shared → Prop} (hh : A.handled = none) (T : TxSet prog w s.heap a ks)
 (hQ : ∀ h' d' tk vs js, StrsAre vs js → js.Perm ks → s.heap.objs.size < h'.objs.size → (∀ b o, s.heap.get? b = some o → h'.get? b = some o) → Q vs { s with heap := h', drawn := d', toks := tk }) :
 wpAny (model prog w) A (collect (.ref a)) Q E s := by
 obtain ⟨⟨es, ep, t, ho, hel, hks, hf, hled, hpl⟩, hnd, hfew⟩ := T
 have hsz : es.size = ks.length := by rw [← zb2 hks, List.length_map, Array.length_toList]
 have haS : a < s.heap.objs.size := Heap.lt_size ho
 unfold collect
 refine wpAny_bind (wpAny_runValue (codeAny_builtin PySem.F.entry_proto_collect ?_))
 rw [Around.under_plainId PySem.F.plain_proto_collect _]
 show wpAny _ A.in1 (newList [] >>= fun l => again (.builtin "list.__iadd__" ⟨[l, .ref a], []⟩)) _ _ s
 refine wpAny_bind (wpAny_newObj_type ?_)
 refine wpAny_pure ⟨plainId_quiet PySem.F.plain_list_iadd _, codeAny_builtin PySem.F.entry_list_iadd ?_⟩
 rw [Around.under_plainId PySem.F.plain_list_iadd _]
 generalize hh1 : s.heap.push { cls := .type "list", data := .seq ([] : List Value).toArray } = h1
 have hk1 : ∀ b o, s.heap.get? b = some o → h1.get? b = some o := fun b o e => by rw [← hh1]; exact Heap.get?_push_of_some _ e
 have hS1 : h1.get? s.heap.objs.size = some { cls := .type "list", data := .seq ([] : List Value).toArray } := by rw [← hh1]; exact Heap.get?_push_size _ rfl
 have hz1 : s.heap.objs.size < h1.objs.size := Heap.lt_size hS1
 show wpAny _ A.in1 (Builtin.List.listExtendWith (.ref s.heap.objs.size) (.ref a) (.ref s.heap.objs.size)) _ _ { s with heap := h1 }
 unfold Builtin.List.listExtendWith
 have hT1 : Shared.TypeIs { s with heap := h1 } (.ref a) "set" := ⟨_, hk1 _ _ ho, rfl⟩
 refine wpAny_bind (wpAny_typeOf hT1 ?_)
 have e1 : Builtin.List.listSameRef (.ref s.heap.objs.size) (.ref a) = false := by
  unfold Builtin.List.listSameRef
  exact beq_eq_false_iff_ne.mpr (Ne.symm (Nat.ne_of_lt haS))
 rw [if_neg (by rw [e1]; decide)]
 refine wpAny_bind (ziY (s := { s with heap := h1 }) (hk1 _ _ ho) hf hpl (by rw [hsz]; exact fits_of_scanBound hfew) fun h2 d2 I f vs ob hO hI hi hob hk2 hI2 hob2 => ?_)
 refine wpAny_bind (wpAny_holding (zi5 (s := { s with heap := h2, drawn := d2 }) ⟨_, hk2 _ _ (hk1 _ _ ho), rfl⟩ ?_))
 rw [if_pos (by decide)]
 refine wpAny_bind (wpAny_rule ?_)
 have hS2 : h2.get? s.heap.objs.size = some { cls := .type "list", data := .seq ([] : List Value).toArray } := hk2 _ _ hS1
 refine wpAny_bind ?_
 show wpAny _ A.in1 (updateSeq s.heap.objs.size (·.push .none) >>= fun _ => updateSeq s.heap.objs.size (·.pop)) _ _ { s with heap := h2, drawn := d2 }
 refine wpAny_bind (wpAny_updateSeq hS2 rfl ?_)
 have hS3 := Heap.get?_update_self (Obj.mapSeq (·.push Value.none)) hS2 rfl
 refine wpAny_updateSeq hS3 rfl ?_
 have hS4 := Heap.get?_update_self (Obj.mapSeq (·.pop)) hS3 rfl
 have oth : ∀ b o, b ≠ s.heap.objs.size → h2.get? b = some o → ((h2.update s.heap.objs.size (Obj.mapSeq (·.push Value.none))).update s.heap.objs.size (Obj.mapSeq (·.pop))).get? b = some o :=
  fun b o hb e => (Heap.get?_update_other _ _ (Ne.symm hb)).trans ((Heap.get?_update_other _ _ (Ne.symm hb)).trans e)
 have hIne : I ≠ s.heap.objs.size := Ne.symm (Nat.ne_of_lt (Nat.lt_of_lt_of_le hz1 hI))
 have hane : a ≠ I := Nat.ne_of_lt (Nat.lt_of_lt_of_le haS (Nat.le_trans (Nat.le_of_lt hz1) hI))
 have hobne : ∀ p ∈ ob, p.1 ≠ s.heap.objs.size := fun p hp => Ne.symm (Nat.ne_of_lt (Nat.lt_of_lt_of_le hz1 (hob p hp).2.1))
 have W := (zhv (prog := prog) (A := A.in1) (by simpa using hh) hO hf hled hane (fun p hp => (hob p hp).2.2)).toS
 have hlen : vs.length = es.size := by rw [hO.perm.length_eq, List.length_map, Array.length_toList]
 obtain ⟨js, hjs, hjp⟩ := zcj hO.perm hks
 refine wpAny_pure ⟨plainId_quiet PySem.F.plain_extend_loop _, codeAny_extend_loopS W (by rw [hsz]; exact fits_of_scanBound hfew) s.heap.objs.size ?_ _ es.size 0 _ _ _ rfl (Nat.zero_le _)
  ⟨oth _ _ hIne hi, oth _ _ (Nat.ne_of_lt haS) (hk2 _ _ (hk1 _ _ ho)), fun p hp => oth _ _ (hobne p hp) (hob p hp).1⟩ hS4 (ItemsOf.nil _) fun s' acc' c' hm hS' hacc => ?_⟩
 · intro hmem
   rw [List.mem_cons, List.mem_cons, List.mem_map] at hmem
   rcases hmem with h | h | ⟨p, hp, h⟩
   · exact hIne h.symm
   · exact Nat.ne_of_lt haS h.symm
   · exact hobne p hp h
 · show wpAny _ A (load s.heap.objs.size >>= _) _ _ s'
   refine wpAny_bind (wpAny_load hS' ?_)
   have hav : acc'.toList = vs := by
    apply List.ext_getElem?
    intro j
    by_cases hj : j < es.size
    · have hj' : j < acc'.size := by rw [hacc.1]; exact hj
      have h1 : acc'.toList[j]? = some acc'[j] := by rw [Array.getElem?_toList]; exact Array.getElem?_eq_getElem hj'
      rw [h1]
      exact (hacc.2 j _ (Array.getElem?_eq_getElem hj')).symm
    · rw [List.getElem?_eq_none (by rw [Array.length_toList, hacc.1]; omega), List.getElem?_eq_none (by omega)]
   obtain ⟨h', g', d', tk', os'⟩ := s'
   have eg : g' = s.gens := hm.gens
   have ed : d' = d2 := hm.drawn
   have eo : os' = s.os := hm.os
   subst eg; subst ed; subst eo
   refine wpAny_pure ?_
   rw [hav]
   refine hQ h' d' tk' vs js hjs hjp (Heap.lt_size hS') fun b o e => ?_
   have hb : b < s.heap.objs.size := Heap.lt_size e
   refine hm.heap b o ?_ (oth b o (Nat.ne_of_lt hb) (hk2 _ _ (hk1 _ _ e)))
   have h0 : h1.objs.size ≤ I := hI
   simp only [List.mem_cons, List.not_mem_nil, or_false, not_or]
   exact ⟨Nat.ne_of_lt hb, Nat.ne_of_lt (Nat.lt_of_lt_of_le hb (Nat.le_trans (Nat.le_of_lt hz1) hI))⟩
end
section
variable {prog : Program} {w : World} {A : Around} {E : Value → Shared → Prop} {s : Shared}
theorem zgn {a : Addr} {ks : List Str} {Q : Value → Shared → Prop} (hh : A.handled = none) (T : TxSet prog w s.heap a ks) (h64 : ks.length < 64)
 (h : ∀ (p : Addr) (h' : Heap) (d' : Drawn) (tk : Nat) (out : Array Value) (ms : List Str) (e : Nat), StrsAre out.toList ms → ms.Perm ks → sortedS ms = true → s.heap.objs.size ≤ p → h'.get? p = some (seqObj "list" out e) →
  (∀ b o, s.heap.get? b = some o → h'.get? b = some o) → Q (.ref p) { s with heap := h', drawn := d', toks := tk }) :
 wpAny (model prog w) A (call (.builtin "sorted") [.ref a]) Q E s := by
 refine Calls.call_function_entry kind_sorted plain_sorted entry_sorted (args_sorted1 _) ?_
 unfold Builtin.«sorted»
 refine wpAny_bind (m := checkCount "sorted" 1 1 _) (wpAny_pure ?_)
 refine wpAny_bind (zfW (by simpa using hh) T fun h1 d1 tk1 vs js hv hp hz hk => ?_)
 have hvl : vs.length = ks.length := by rw [zb2 hv, hp.length_eq]
 refine wpAny_bind (wpAny_newList ?_ (by rw [sizeLine_eq]; omega))
 have hoL : (h1.push (seqObj "list" vs.toArray 0)).get? h1.objs.size = some (seqObj "list" vs.toArray 0) := Heap.get?_push_size _ rfl
 show wpAny _ _ (holding _ _ >>= _) _ _ { s with heap := h1.push (seqObj "list" vs.toArray 0), drawn := d1, toks := tk1 }
 refine wpAny_bind (wpAny_holding (wpAny_call_entry slot_list_sort ⟨_, hoL, rfl⟩ entry_list_sort (list_sort_treeK strKind_oneLt hoL hv.keysOf (fun v₁ v₂ rest e => keyKind_strs (by rw [← e]; exact hv)) (by omega) fun st' a1 a2 => ⟨_, rfl, ?_⟩) (args_list_sort _)))
 obtain ⟨ms, m1, m2, m3⟩ := sorted_out_str hv a1 a2
 obtain ⟨e, he⟩ := sortedHeap_at (out := (arrOf st').map (·.2)) hoL
 refine wpAny_pure ⟨_, rfl, h h1.objs.size _ d1 tk1 _ ms e m1 (m2.trans hp) m3 (Nat.le_of_lt hz) he fun b o eb => ?_⟩
 · have hb : b < h1.objs.size := Heap.lt_size (hk b o eb)
   rw [sortedHeap_old (Nat.ne_of_lt hb) (by rw [size_push']; exact Nat.lt_succ_of_lt hb)]
   exact Heap.get?_push_of_some _ (hk b o eb)
end
section
variable {X : Cx} {e : Expr} {te : TE} {pos p2 p3 p4 : Pos}
end
theorem zkC {x y : Str} (h : x.cps.toList = y.cps.toList) : x = y := by
 obtain ⟨a⟩ := x
 obtain ⟨b⟩ := y
 congr
 exact Array.toList_inj.mp h
theorem ziL {x y : Str} (h : ¬ ltF x y) (n : x ≠ y) : ltF y x := by
 unfold ltF at *
 rcases Std.lt_trichotomy (α := List Nat) x.cps.toList y.cps.toList with h1 | h1 | h1
 · exact absurd h1 h
 · exact absurd (zkC h1) n
 · exact h1
theorem zc5 {x y z : Str} (h : ltF x y) (h2 : ltF y z) : ltF x z := List.lt_trans h h2
theorem zfr : ∀ (r : List Str) (p : Str), risingS p r = true → (p :: r).Nodup → (p :: r).Pairwise ltF
 | [], p, _, _ => List.pairwise_singleton _ _
 | x :: r, p, h, n => by
  unfold risingS at h
  rw [Bool.and_eq_true, Bool.not_eq_true', ltCps_eq, decide_eq_false_iff_not] at h
  rw [List.nodup_cons] at n
  have px : ltF p x := ziL (x := x) (y := p) h.1 (fun e => n.1 (by rw [← e]; exact List.mem_cons_self))
  have ih := zfr r x h.2 n.2
  rw [List.pairwise_cons]
  refine ⟨fun y hy => ?_, ih⟩
  rcases List.mem_cons.mp hy with rfl | hy
  · exact px
  · exact zc5 px ((List.pairwise_cons.mp ih).1 y hy)
theorem zfl {ms : List Str} (h : sortedS ms = true) (n : ms.Nodup) : ms.Pairwise ltF := by
 cases ms with
 | nil => exact .nil
 | cons x r => exact zfr r x h n
theorem PieceAt.keep {H H' : Hp} {a : Addr} {w : List PP} (h : PieceAt H a w) (s : Tups H H') : PieceAt H' a w := by
 obtain ⟨ps, e, h1, h2⟩ := h
 exact ⟨ps, e, s _ _ h1, fun p hp => s _ _ (h2 p hp)⟩
theorem PieceAt.same {H H' : Hp} {a : Addr} {w : List PP} (h : PieceAt H a w) (s : Same H H') : PieceAt H' a w := h.keep s.tups
structure POk (p : List PP) : Prop where
 len : p.length ≤ 100
 ok : ∀ x ∈ p, FieldOk x.1
 asc : (p.map (·.1)).Pairwise ltF
def zbx (p : List PP) (f : Str) : Option Int := (p.find? (fun x => decide (x.1 = f))).map (·.2)
theorem zhP {w : List PP} {f : Str} (h : ∀ p ∈ w, p.1 ≠ f) : zbx w f = none := by
 unfold zbx
 rw [List.find?_eq_none.mpr fun p hp z => h p hp (of_decide_eq_true z)]
 rfl
theorem zhN (w : List PP) (p : PP) (f : Str) (hn : zbx w p.1 = none) : zbx (w ++ [p]) f = if f = p.1 then some p.2 else zbx w f := by
 unfold zbx at *
 rw [List.find?_append]
 by_cases h : f = p.1
 · subst h
   rw [if_pos rfl]
   cases e : w.find? (fun q => decide (q.1 = p.1)) with
   | some q => rw [e] at hn; cases hn
   | none => simp
 · rw [if_neg h]
   cases e : w.find? (fun q => decide (q.1 = f)) with
   | some q => rfl
   | none => simp; exact fun z => h z.symm
theorem POk.fresh {w : List PP} (h : POk w) {i : Nat} {p : PP} (hp : w[i]? = some p) : zbx (w.take i) p.1 = none := by
 refine zhP fun q hq e => ?_
 obtain ⟨j, hj⟩ := List.getElem?_of_mem hq
 rw [List.getElem?_take] at hj
 split at hj
 · rename_i lt
   have hi : i < w.length := (List.getElem?_eq_some_iff.mp hp).1
   have := List.pairwise_iff_getElem.mp h.asc j i (by rw [List.length_map]; omega) (by rw [List.length_map]; exact hi) lt
   rw [List.getElem_map, List.getElem_map] at this
   have e1 : w[j]'(by omega) = q := (List.getElem?_eq_some_iff.mp hj).2
   have e2 : w[i] = p := (List.getElem?_eq_some_iff.mp hp).2
   rw [e1, e2] at this
   exact zdv this e
 · cases hj
def zci (p : List PP) (x : WP) : Bool := match zbx p x.1 with
 | none => false
 | some n => inB x.2.1 x.2.2 n
theorem zdH {p : List PP} {x : WP} (h : zbx p x.1 = none) : zci p x = false := by unfold zci; rw [h]
theorem zcJ {p : List PP} {x : WP} {n : Int} (h : zbx p x.1 = some n) : zci p x = inB x.2.1 x.2.2 n := by unfold zci; rw [h]
def zat (w : List WP) (p : List PP) : Bool := w.all (zci p)
theorem zhB {w : List WP} {p : List PP} {x : WP} (hx : x ∈ w) (h : zci p x = false) : zat w p = false := by
 unfold zat
 rw [List.all_eq_false]
 exact ⟨x, hx, by rw [h]; exact Bool.false_ne_true⟩
def zgh : Sp := fun vs H Q _ => ∃ (a b : Addr) (w : List WP) (p : List PP), vs = [.ref a, .ref b] ∧ WishAt H a w ∧ PieceAt H b p ∧ POk p ∧ ∀ H', Same H H' → Q (.bl (zat w p)) H'
theorem az : ("abcdefghijklmnopqrstuvwxyz" : Str).cps.toList = (List.range 26).map (· + 97) := by decide +kernel
theorem zlP {r : Int} (h0 : 0 ≤ r) (h1 : r < 26) : ∃ c, atI ("abcdefghijklmnopqrstuvwxyz" : Str).cps.toList r = some c ∧ zbr c = true := by
 rw [az]
 obtain ⟨k, rfl⟩ : ∃ k : Nat, r = k := ⟨r.toNat, by omega⟩
 have hk : k < 26 := by omega
 refine ⟨k + 97, ?_, ?_⟩
 · refine zbC ?_
   rw [List.getElem?_map, List.getElem?_range hk]
   rfl
 · unfold zbr
   rw [Bool.and_eq_true]
   exact ⟨decide_eq_true (by omega), decide_eq_true (by omega)⟩
theorem zel : ∀ (cs : List Nat), (Txt.join ("" : Str) (cs.map fun c => (⟨#[c]⟩ : Str))).cps.toList = cs
 | [] => rfl
 | [c] => rfl
 | c :: d :: r => by
  have ih := zel (d :: r)
  have e : ∀ (ts : List Str), Txt.join ("" : Str) ts = Str.join ("" : Str) ts := fun ts => StrLaws.glued_eq_join _ _
  rw [e] at ih ⊢
  show ((⟨#[c]⟩ : Str) ++ ("" : Str) ++ Str.join ("" : Str) ((d :: r).map fun c => (⟨#[c]⟩ : Str))).cps.toList = _
  have : ((⟨#[c]⟩ : Str) ++ ("" : Str) ++ Str.join ("" : Str) ((d :: r).map fun c => (⟨#[c]⟩ : Str))).cps.toList = c :: (Str.join ("" : Str) ((d :: r).map fun c => (⟨#[c]⟩ : Str))).cps.toList := by
   show (#[c] ++ #[] ++ _ : Array Nat).toList = _
   simp
  rw [this, ih]
theorem zkZ (cs : List Nat) (h : cs.length ≤ 1000) : JoinOk ("" : Str) (cs.map fun c => (⟨#[c]⟩ : Str)) = true := by
 unfold JoinOk
 rw [Bool.not_eq_true']
 refine StrLaws.joinFits (B := 1) (fun y hy => ?_) ?_
 · obtain ⟨c, _, rfl⟩ := List.mem_map.mp hy
   exact Nat.le_refl 1
 · rw [List.length_map]
   show cs.length * 1 + cs.length * 0 ≤ _
   omega
theorem zhY {cs : List Nat} (h1 : 1 ≤ cs.length) (h8 : cs.length ≤ 8) (ok : ∀ c ∈ cs, zbr c = true) : FieldOk (Txt.join ("" : Str) (cs.map fun c => (⟨#[c]⟩ : Str))) := by
 have e := zel cs
 have hl : (Txt.join ("" : Str) (cs.map fun c => (⟨#[c]⟩ : Str))).length = cs.length := by
  show Array.size _ = _
  rw [← Array.length_toList, e]
 exact ⟨by rw [hl]; exact h1, by rw [hl]; exact h8, by rw [e]; exact ok⟩
theorem SameB.off {b g p : Addr} {H H' : Hp} {o : HO} (s : SameB b g H H') (hp : H p = none) : SameB b g H (upd H' p o) := fun a x h n1 n2 => by
 have : a ≠ p := fun e => by rw [e, hp] at h; cases h
 rw [zan this]
 exact s a x h n1 n2
namespace FS
theorem dict_len : typeLookup (.type "dict") "__len__" = pure (some (.builtin "dict.__len__")) := by rw [typeLookup_type, builtinLookup_eq_fast]; kernel_rfl
theorem split_dict_len : splitId "dict.__len__" = some ("dict", "__len__") := by decide +kernel
end FS
section
variable {prog : Program} {w : World} {A : Around} {E : Value → Shared → Prop} {s : Shared}
theorem zi6 {a : Addr} {Q : Bool → Shared → Prop} (hT : s.TypeIs (.ref a) "dict") (h : Q false s) : wpAny (model prog w) A (Builtin.List.listLengthHint (.ref a)) Q E s := by
 unfold Builtin.List.listLengthHint
 refine wpAny_bind (wpAny_specialOf hT FS.dict_len ?_)
 dsimp only
 generalize hid : ("dict.__len__" : String) = id0
 rw [show splitId id0 = some ("dict", "__len__") from by subst hid; exact FS.split_dict_len]
 subst hid
 dsimp only
 refine wpAny_bind (wpAny_isInstance (b := true) hT zfg ?_)
 simp only [Bool.not_true, Bool.false_eq_true, if_false]
 refine wpAny_bind (wpAny_typeOf hT (wpAny_pure h))
variable {κ : Type} [DecidableEq κ] {knd : PySem.KeyKind prog w κ}
set_option maxHeartbeats 1000000 in
theorem zfX {a : Addr} {kvs : List (κ × Value)} {ep : Nat} {Q : List Value → Shared → Prop} (hh : A.handled = none) (hs : (a == sysModules) = false) (D : s.heap.DictAt knd a kvs ep) (hz : kvs.length ≤ sizeLine)
 (hQ : ∀ (h' : Heap) (tk : Nat) (vs : List Value), vs.length = kvs.length → (∀ (i : Nat) (v : Value), vs[i]? = some v → ∃ k u, kvs[i]? = some (k, u) ∧ knd.is k v = true) → s.heap.objs.size < h'.objs.size → (∀ b o, s.heap.get? b = some o → h'.get? b = some o) → Q vs { s with heap := h', toks := tk }) :
 wpAny (model prog w) A (collect (.ref a)) Q E s := by
 have haS : a < s.heap.objs.size := D.lt_size
 unfold collect
 refine wpAny_bind (wpAny_runValue (codeAny_builtin PySem.F.entry_proto_collect ?_))
 rw [Around.under_plainId PySem.F.plain_proto_collect _]
 show wpAny _ A.in1 (newList [] >>= fun l => again (.builtin "list.__iadd__" ⟨[l, .ref a], []⟩)) _ _ s
 refine wpAny_bind (wpAny_newObj_type ?_)
 refine wpAny_pure ⟨plainId_quiet PySem.F.plain_list_iadd _, codeAny_builtin PySem.F.entry_list_iadd ?_⟩
 rw [Around.under_plainId PySem.F.plain_list_iadd _]
 generalize hh1 : s.heap.push { cls := .type "list", data := .seq ([] : List Value).toArray } = h1
 have hk1 : ∀ b o, s.heap.get? b = some o → h1.get? b = some o := fun b o e => by rw [← hh1]; exact Heap.get?_push_of_some _ e
 have hS1 : h1.get? s.heap.objs.size = some { cls := .type "list", data := .seq ([] : List Value).toArray } := by rw [← hh1]; exact Heap.get?_push_size _ rfl
 have hz1 : s.heap.objs.size < h1.objs.size := Heap.lt_size hS1
 have D1 : h1.DictAt knd a kvs ep := D.keep hk1
 show wpAny _ A.in1 (Builtin.List.listExtendWith (.ref s.heap.objs.size) (.ref a) (.ref s.heap.objs.size)) _ _ { s with heap := h1 }
 unfold Builtin.List.listExtendWith
 have hT1 : Shared.TypeIs { s with heap := h1 } (.ref a) "dict" := D1.dictOf.typeIs
 refine wpAny_bind (wpAny_typeOf hT1 ?_)
 have e1 : Builtin.List.listSameRef (.ref s.heap.objs.size) (.ref a) = false := by
  unfold Builtin.List.listSameRef
  exact beq_eq_false_iff_ne.mpr (Ne.symm (Nat.ne_of_lt haS))
 rw [if_neg (by rw [e1]; decide)]
 refine wpAny_bind (wpAny_pyIter_dict (s := { s with heap := h1 }) (knd := knd) hs D1 ?_)
 generalize hh2 : h1.push { cls := .type "dict_keyiterator", data := .fields #[.ref a, .int 0 0, .int kvs.length 0, .int ep 0] } = h2
 have hk2 : ∀ b o, h1.get? b = some o → h2.get? b = some o := fun b o e => by rw [← hh2]; exact Heap.get?_push_of_some _ e
 have hi : h2.IsKeyIter h1.objs.size a 0 kvs.length ep := by rw [← hh2]; exact ⟨_, Heap.get?_push_size _ rfl, rfl, rfl⟩
 have D2 : h2.DictAt knd a kvs ep := D1.keep hk2
 show wpAny _ A.in1 _ _ _ { s with heap := h2 }
 refine wpAny_bind (wpAny_holding (zi6 (s := { s with heap := h2 }) D2.dictOf.typeIs ?_))
 rw [if_pos (by decide)]
 refine wpAny_bind (wpAny_rule ?_)
 have hS2 : h2.get? s.heap.objs.size = some { cls := .type "list", data := .seq ([] : List Value).toArray } := hk2 _ _ hS1
 refine wpAny_bind ?_
 show wpAny _ A.in1 (updateSeq s.heap.objs.size (·.push .none) >>= fun _ => updateSeq s.heap.objs.size (·.pop)) _ _ { s with heap := h2 }
 refine wpAny_bind (wpAny_updateSeq hS2 rfl ?_)
 have hS3 := Heap.get?_update_self (Obj.mapSeq (·.push Value.none)) hS2 rfl
 refine wpAny_updateSeq hS3 rfl ?_
 have hS4 := Heap.get?_update_self (Obj.mapSeq (·.pop)) hS3 rfl
 have oth : ∀ b o, b ≠ s.heap.objs.size → h2.get? b = some o → ((h2.update s.heap.objs.size (Obj.mapSeq (·.push Value.none))).update s.heap.objs.size (Obj.mapSeq (·.pop))).get? b = some o :=
  fun b o hb e => (Heap.get?_update_other _ _ (Ne.symm hb)).trans ((Heap.get?_update_other _ _ (Ne.symm hb)).trans e)
 have hIne : h1.objs.size ≠ s.heap.objs.size := Ne.symm (Nat.ne_of_lt hz1)
 have hane : a ≠ h1.objs.size := Nat.ne_of_lt (Nat.lt_trans haS hz1)
 have ext : Heap.ExtBut s.heap.objs.size h2 ((h2.update s.heap.objs.size (Obj.mapSeq (·.push Value.none))).update s.heap.objs.size (Obj.mapSeq (·.pop))) := fun b o hb e => oth b o hb e
 have W := (Walks.dictKeys (knd := knd) (A := A.in1) (by simpa using hh) h1.objs.size a hane kvs ep).toS
 refine wpAny_pure ⟨plainId_quiet PySem.F.plain_extend_loop _, codeAny_extend_loopS W hz s.heap.objs.size ?_ _ kvs.length 0 _ _ _ rfl (Nat.zero_le _)
  ⟨hi.extBut ext hIne, D2.extBut ext (Nat.ne_of_lt haS)⟩ hS4 (ItemsOf.nil _) fun s' acc' c' hm hS' hacc => ?_⟩
 · intro hmem
   rw [List.mem_cons, List.mem_singleton] at hmem
   rcases hmem with h | h
   · exact hIne h.symm
   · exact Nat.ne_of_lt haS h.symm
 · show wpAny _ A (load s.heap.objs.size >>= _) _ _ s'
   refine wpAny_bind (wpAny_load hS' ?_)
   obtain ⟨h', g', d', tk', os'⟩ := s'
   have eg : g' = s.gens := hm.gens
   have ed : d' = s.drawn := hm.drawn
   have eo : os' = s.os := hm.os
   subst eg; subst ed; subst eo
   refine wpAny_pure ?_
   refine hQ h' tk' acc'.toList (by rw [Array.length_toList]; exact hacc.1) (fun i v hv => ?_) (Heap.lt_size hS') fun b o e => ?_
   · exact hacc.2 i v (by rw [← Array.getElem?_toList]; exact hv)
   · have hb : b < s.heap.objs.size := Heap.lt_size e
     refine hm.heap b o ?_ (oth b o (Nat.ne_of_lt hb) (hk2 _ _ (hk1 _ _ e)))
     simp only [List.mem_cons, List.not_mem_nil, or_false, not_or]
     exact ⟨Nat.ne_of_lt hb, Nat.ne_of_lt (Nat.lt_trans hb hz1)⟩
theorem zdq : ∀ (fs : List Str) (vs : List Value), vs.length = fs.length → (∀ (i : Nat) (v : Value) (f : Str), vs[i]? = some v → fs[i]? = some f → (zaE prog w).is (.inr f) v = true) → StrsAre vs fs
 | [], [], _, _ => .nil
 | [], _ :: _, h, _ => by simp at h
 | _ :: _, [], h, _ => by simp at h
 | f :: fs, v :: vs, h, q => by
  have h0 := q 0 v f rfl rfl
  rw [zhQ] at h0
  obtain ⟨t, rfl⟩ : ∃ t, v = .str f t := Value.isStrOf_shape h0
  exact .cons f t (zdq fs vs (by simpa using h) fun i v f' hv hf => q (i + 1) v f' (by simpa using hv) (by simpa using hf))
end
section
variable {X : Cx}
end
section
variable {X : Cx}
end
theorem zmg {c : Nat} (h : zbr c = true) : (Builtin.Str.occurrences ("abcdefghijklmnopqrstuvwxyz" : Str) (⟨#[c]⟩ : Str) 0 ("abcdefghijklmnopqrstuvwxyz" : Str).length 1).isEmpty = false := by
 have h1 : 97 ≤ c := of_decide_eq_true ((Bool.and_eq_true _ _).mp h).1
 have h2 : c ≤ 122 := of_decide_eq_true ((Bool.and_eq_true _ _).mp h).2
 have all : ∀ k : Fin 26, (Builtin.Str.occurrences ("abcdefghijklmnopqrstuvwxyz" : Str) (⟨#[k.val + 97]⟩ : Str) 0 ("abcdefghijklmnopqrstuvwxyz" : Str).length 1).isEmpty = false := by decide +kernel
 have := all ⟨c - 97, by omega⟩
 rw [show (⟨c - 97, by omega⟩ : Fin 26).val + 97 = c from by show c - 97 + 97 = c; omega] at this
 exact this
def zdP (ps : List (Addr × PP)) : List (Addr × Key × V) := ps.map fun p => (p.1, (Sum.inr p.2.1 : Key), V.int p.2.2)
theorem zh0 (ps : List (Addr × PP)) (pok : POk (ps.map (·.2))) (f : Str) : ∀ (n : Nat), n ≤ ps.length → valV ((zdP (ps.take n)).foldl (fun acc p => putK acc p.2.1 p.2.2) []) (.inr f : Key) = (zbx ((ps.map (·.2)).take n) f).map V.int := by
 intro n
 induction n with
 | zero => intro _; rfl
 | succ n ih =>
  intro hn
  have e1 : ps[n]? = some ps[n] := by simp
  have ew : (ps.map (·.2))[n]? = some ps[n].2 := by rw [List.getElem?_map, e1]; rfl
  have fr := pok.fresh ew
  rw [zaw e1, zaw ew, zhN _ _ _ fr]
  unfold zdP at ih ⊢
  rw [List.map_append, List.foldl_append]
  show valV (putK _ (Sum.inr ps[n].2.1 : Key) (V.int ps[n].2.2)) (.inr f) = _
  rw [zeq]
  by_cases hf : f = ps[n].2.1
  · rw [if_pos hf, if_pos (by rw [hf])]
    rfl
  · rw [if_neg hf, if_neg (fun z => hf (by injection z))]
    exact ih (by omega)
theorem zgY (ps : List (Addr × PP)) (pok : POk (ps.map (·.2))) (f : Str) : valV ((zdP ps).foldl (fun acc p => putK acc p.2.1 p.2.2) []) (.inr f : Key) = (zbx (ps.map (·.2)) f).map V.int := by
 have := zh0 ps pok f ps.length (Nat.le_refl _)
 rw [List.take_length, List.take_of_length_le (by simp)] at this
 exact this
theorem zbe {w : List WP} {f : Str} {s : Option Int × Option Int} (h : zal w f = some s) : ∃ p ∈ w, p.1 = f ∧ p.2 = s := by
 unfold zal at h
 cases e : w.find? (fun p => decide (p.1 = f)) with
 | none => rw [e] at h; cases h
 | some p =>
  rw [e] at h
  have h2 : decide (p.1 = f) = true := List.find?_some (p := fun (p : WP) => decide (p.1 = f)) e
  exact ⟨p, List.mem_of_find?_eq_some e, of_decide_eq_true h2, Option.some.inj h⟩
theorem zhO {p : List PP} (h : (p.map (·.1)).Pairwise ltF) {x : PP} (hx : x ∈ p) : zbx p x.1 = some x.2 := by
 induction p with
 | nil => simp at hx
 | cons y r ih =>
  rw [List.map_cons, List.pairwise_cons] at h
  rcases List.mem_cons.mp hx with rfl | hx
  · simp [zbx]
  · have : ltF y.1 x.1 := h.1 _ (List.mem_map_of_mem hx)
    have ne := zdv this
    have := ih h.2 hx
    simp [zbx, List.find?_cons, ne] at this ⊢
    exact this
theorem zfj {w : List WP} {f : Str} (h : zal w f = none) : ∀ p ∈ w, p.1 ≠ f := fun p hp e => by
 unfold zal at h
 rw [Option.map_eq_none_iff, List.find?_eq_none] at h
 exact h p hp (decide_eq_true e)
theorem zk4 {w : List WP} (h : (w.map (·.1)).Pairwise ltF) : ∀ {x y : WP}, x ∈ w → y ∈ w → x.1 = y.1 → x = y := by
 induction w with
 | nil => intro x y hx; simp at hx
 | cons z r ih =>
  rw [List.map_cons, List.pairwise_cons] at h
  intro x y hx hy e
  rcases List.mem_cons.mp hx with e1 | hx1
  · rcases List.mem_cons.mp hy with e2 | hy1
    · rw [e1, e2]
    · rw [e1] at e
      exact absurd e (zdv (h.1 _ (List.mem_map_of_mem hy1)))
  · rcases List.mem_cons.mp hy with e2 | hy1
    · rw [e2] at e
      exact absurd e.symm (zdv (h.1 _ (List.mem_map_of_mem hx1)))
    · exact ih h.2 hx1 hy1 e
theorem zjb {w : List WP} (h : (w.map (·.1)).Pairwise ltF) {x : WP} (hx : x ∈ w) : w.find? (fun p => decide (p.1 = x.1)) = some x := by
 cases e : w.find? (fun p => decide (p.1 = x.1)) with
 | none => exact absurd (decide_eq_true rfl) (List.find?_eq_none.mp e x hx)
 | some y =>
  have h2 : decide (y.1 = x.1) = true := List.find?_some (p := fun (p : WP) => decide (p.1 = x.1)) e
  rw [zk4 h (List.mem_of_find?_eq_some e) hx (of_decide_eq_true h2)]
theorem zb3 {w : List WP} (h : (w.map (·.1)).Pairwise ltF) {x : WP} (hx : x ∈ w) : zal w x.1 = some x.2 := by
 unfold zal
 rw [zjb h hx]
 rfl
theorem zjS {lo hi : Option Int} (h : leO lo hi = true) : inB lo hi (zgJ lo hi) = true := by
 cases lo <;> cases hi <;> simp [leO, inB, loB, hiB, zgJ] at h ⊢
 exact decide_eq_true h
end L2
namespace L2
open PySem.W PyProof.Rows
namespace KS
variable {lt : Nat → Nat → Bool} {N : Nat}
end KS
end L2
set_option maxHeartbeats 1000000
namespace L2
open PySem PySem.Spec PyProof.Rows PySem.W
section
variable {prog : Program} {w : World} {A : Around} {E : Value → Shared → Prop} {s : Shared}
end
end L2
namespace L2
open PySem PySem.Spec PyProof.Rows PySem.W
section
variable {X : Cx}
end
end L2
namespace L2
open PySem PySem.Spec PyProof.Rows
open PySem.AutoSeq1 (wpAny_loadPart')
open PySem.MeetsSeq PySem.MeetsSeq2 PySem.MeetsSeq3 PySem.SeqRoads2
section
variable {P : Program} {w : World}
end
section
variable {X : Cx} {pins : List (Addr × Obj)} {σ : St} {H : Hp} {s : Shared}
end
end L2
namespace L2
open PySem PySem.Spec PyProof.Rows PySem.W
section
variable {X : Cx} {pins : List (Addr × Obj)} {σ : St} {H : Hp} {s : Shared} {a : Addr} {o : HO}
end
end L2
namespace L2
open PySem PySem.Spec PyProof.Rows PySem.W
section
variable {X : Cx} {pins : List (Addr × Obj)} {σ : St} {H : Hp} {s : Shared}
end
end L2
namespace L2
open PySem PySem.Spec PyProof.Rows
section
variable {X : Cx} {pins : List (Addr × Obj)} {σ : St} {H : Hp} {s : Shared} {a : Addr} {o : Obj} {kvs : List (Key × V)}
end
section
variable {X : Cx} {tg : Expr}
end
section
variable {p a : Addr} {g : TG} {tc : TT} {te : TE} {σ : St} {H : Hp} {Q : VK} {o : Obj} {kvs : List (Key × V)} {fs : List Str}
end
section
variable {X : Cx}
def zkN : List V → Hp → VK → Prop := fun xs H Q => ∃ (a : Addr) (kvs : List (Key × V)) (fs : List Str), xs = [.ref a] ∧ Rd H a (.dK kvs) ∧ kvs.map (·.1) = fs.map Sum.inr ∧ fs.length < 64 ∧
 ∀ (p : Addr) (ms : List Str), ms.Perm fs → ms.Nodup → sortedS ms = true → H p = none → Q (.ref p) (upd H p (.lst (ms.map V.str)))
theorem ze7 (hc : X.calm = true) : zcQ X (.builtin "sorted") zkN := by
 intro pins s σ H xs us Q I r h
 obtain ⟨a, kvs, fs, rfl, hH, hfs, h64, q⟩ := h
 obtain ⟨u, rfl, rx⟩ := zcR r
 cases rx
 obtain ⟨hz, hS, vs, rk, m⟩ : kvs.length ≤ sizeLine ∧ (a == sysModules) = false ∧ ∃ vs, KV kvs vs ∧ s.heap.DictOf (zaE X.prog X.w) a vs := by
  rcases hH with hH | ⟨o, hH⟩
  · exact I.hok a _ hH
  · exact (show ObjOk X.prog X.w H s.heap a (.frz o (.dK kvs)) from I.hok a _ hH).2
 obtain ⟨ep, D⟩ := m.dictAt
 have hlen : kvs.length = vs.length := Paired.length rk
 have hfl : kvs.length = fs.length := by have := congrArg List.length hfs; simpa using this
 have keys : vs.map (·.1) = fs.map Sum.inr := by
  rw [← hfs]
  clear hfs D m hlen hfl hz hH
  unfold KV at rk
  induction rk with
  | nil => rfl
  | cons r t ih => rw [List.map_cons, List.map_cons, ih, r.1]
 have hnd : fs.Nodup := by
  have := D.nodup
  rw [keys] at this
  exact List.Pairwise.of_map _ (fun _ _ z e => z (by rw [e])) this
 refine Calls.call_function_entry kind_sorted plain_sorted entry_sorted (args_sorted1 _) ?_
 unfold Builtin.«sorted»
 refine wpAny_bind (m := checkCount "sorted" 1 1 _) (wpAny_pure ?_)
 refine wpAny_bind (zfX (knd := zaE X.prog X.w) (by simpa using I.ok.hd hc) hS D (by omega) fun h1 tk1 ws hwl hws hsz hk => ?_)
 have hv : StrsAre ws fs := zdq (prog := X.prog) (w := X.w) fs ws (by omega) fun i v f h2 h3 => by
  obtain ⟨k, u, h4, h5⟩ := hws i v h2
  have : (vs.map (·.1))[i]? = some k := by rw [List.getElem?_map, h4]; rfl
  rw [keys, List.getElem?_map, h3] at this
  cases this
  exact h5
 refine wpAny_bind (wpAny_newList ?_ (by rw [sizeLine_eq]; omega))
 have hoL : (h1.push (seqObj "list" ws.toArray 0)).get? h1.objs.size = some (seqObj "list" ws.toArray 0) := Heap.get?_push_size _ rfl
 show wpAny _ _ (holding _ _ >>= _) _ _ { s with heap := h1.push (seqObj "list" ws.toArray 0), toks := tk1 }
 refine wpAny_bind (wpAny_holding (wpAny_call_entry slot_list_sort ⟨_, hoL, rfl⟩ entry_list_sort (list_sort_treeK strKind_oneLt hoL hv.keysOf (fun v₁ v₂ rest e => keyKind_strs (by rw [← e]; exact hv)) (by omega) fun st' a1 a2 => ⟨_, rfl, ?_⟩) (args_list_sort _)))
 obtain ⟨ms, m1, m2, m3⟩ := sorted_out_str hv a1 a2
 obtain ⟨e, he⟩ := sortedHeap_at (out := (arrOf st').map (·.2)) hoL
 refine wpAny_pure ⟨_, rfl, ?_⟩
 have hn1 : H h1.objs.size = none := I.hok.fresh (Nat.le_of_lt hsz)
 refine ⟨.ref h1.objs.size, upd H h1.objs.size (.lst (ms.map V.str)), I.laid (t' := tk1) (fun b o eb => ?_) (Nat.le_of_lt hsz) ?_, rfl, q _ ms m2 (m2.nodup_iff.mpr hnd) m3 hn1⟩
 · have hb : b < h1.objs.size := Heap.lt_size (hk b o eb)
   rw [sortedHeap_old (Nat.ne_of_lt hb) (by rw [size_push']; exact Nat.lt_succ_of_lt hb)]
   exact Heap.get?_push_of_some _ (hk b o eb)
 · have hml : ms.length = fs.length := m2.length_eq
   exact ⟨by rw [List.length_map, sizeLine_eq]; omega, ((arrOf st').map (·.2)).toList, e, zbD m1, by rw [Array.toArray_toList]; exact he⟩
end
def kvS (bs : List (Str × V)) : List (Key × V) := bs.map fun x => ((Sum.inr x.1 : Key), x.2)
def getS (bs : List (Str × V)) (f : Str) : Option V := (bs.find? fun x => decide (x.1 = f)).map (·.2)
theorem zcs (f : Str) : ∀ bs : List (Str × V), valV (kvS bs) (.inr f : Key) = getS bs f
 | [] => rfl
 | x :: bs => by
  have ih := zcs f bs
  unfold kvS valV getS at *
  by_cases h : x.1 = f
  · simp [List.find?_cons, h]
  · simp [List.find?_cons, h] at ih ⊢
    exact ih
theorem zjX (bs : List (Str × V)) : (kvS bs).map (·.1) = (bs.map (·.1)).map Sum.inr := by
 unfold kvS
 rw [List.map_map, List.map_map]
 rfl
def putS (bs : List (Str × V)) (f : Str) (v : V) : List (Str × V) := if (bs.any fun x => decide (x.1 = f)) = true then bs.map (fun x => if x.1 = f then (x.1, v) else x) else bs ++ [(f, v)]
theorem zeL (bs : List (Str × V)) (f : Str) (v : V) : putK (kvS bs) (.inr f : Key) v = kvS (putS bs f v) := by
 unfold putK putS kvS
 have e : ((bs.map fun x => ((Sum.inr x.1 : Key), x.2)).any fun kv => decide (kv.1 = (Sum.inr f : Key))) = bs.any fun x => decide (x.1 = f) := by
  rw [List.any_map]
  congr 1
  funext x
  simp
 rw [e]
 split
 · rw [List.map_map, List.map_map]
   refine List.map_congr_left fun x _ => ?_
   simp only [Function.comp]
   by_cases h : x.1 = f
   · rw [if_pos (by rw [h]), if_pos h]
   · rw [if_neg (fun z => h (by injection z)), if_neg h]
 · rw [List.map_append]
   rfl
theorem zfv (bs : List (Str × V)) (f : Str) (v : V) : (putS bs f v).map (·.1) = if f ∈ bs.map (·.1) then bs.map (·.1) else bs.map (·.1) ++ [f] := by
 unfold putS
 have e : (bs.any fun x => decide (x.1 = f)) = true ↔ f ∈ bs.map (·.1) := by
  rw [List.any_eq_true, List.mem_map]
  constructor
  · rintro ⟨x, hx, h⟩; exact ⟨x, hx, of_decide_eq_true h⟩
  · rintro ⟨x, hx, h⟩; exact ⟨x, hx, decide_eq_true h⟩
 by_cases h : f ∈ bs.map (·.1)
 · rw [if_pos (e.mpr h), if_pos h, List.map_map]
   refine List.map_congr_left fun x _ => ?_
   simp only [Function.comp]
   split <;> rfl
 · rw [if_neg (fun z => h (e.mp z)), if_neg h, List.map_append]
   rfl
theorem zhG {bs : List (Str × V)} (h : (bs.map (·.1)).Nodup) (f : Str) (v : V) : ((putS bs f v).map (·.1)).Nodup := by
 rw [zfv]
 split
 · exact h
 · rename_i hn
   exact ziI h hn
theorem zjH (bs : List (Str × V)) (f : Str) (v : V) : (putS bs f v).length ≤ bs.length + 1 := by
 unfold putS
 split
 · rw [List.length_map]; omega
 · rw [List.length_append]; simp
theorem zj1 (bs : List (Str × V)) (f : Str) (v : V) (g : Str) : getS (putS bs f v) g = if g = f then some v else getS bs g := by
 rw [← zcs, ← zeL, zeq, zcs]
 by_cases h : g = f
 · subst h; rw [if_pos rfl, if_pos rfl]
 · rw [if_neg h, if_neg (fun z => h (by injection z))]
theorem zj2 {bs : List (Str × V)} {f : Str} : f ∈ bs.map (·.1) ↔ (getS bs f).isSome = true := by
 unfold getS
 rw [Option.isSome_map, List.find?_isSome, List.mem_map]
 constructor
 · rintro ⟨x, hx, h⟩; exact ⟨x, hx, decide_eq_true h⟩
 · rintro ⟨x, hx, h⟩; exact ⟨x, hx, of_decide_eq_true h⟩
abbrev SPN := Option Int × Option Int
def metO : Option SPN → Option SPN → Option SPN
 | none, o => o
 | some s, none => some s
 | some s, some t => some (mLo s.1 t.1, mHi s.2 t.2)
structure IsMet (w1 w2 m : List WP) : Prop where
 len : m.length ≤ w1.length + w2.length
 asc : (m.map (·.1)).Pairwise ltF
 sp : ∀ f, zal m f = metO (zal w1 f) (zal w2 f)
def zf9 (w1 : List WP) (p : WP) : Bool := match zal w1 p.1 with
 | none => false
 | some s => apart (mLo s.1 p.2.1) (mHi s.2 p.2.2)
def zbZ (w1 w2 : List WP) : Bool := w2.any (zf9 w1)
theorem zch {w : List WP} (h : (w.map (·.1)).Pairwise ltF) (p : List PP) : zat w p = true ↔ ∀ f s, zal w f = some s → ∃ n, zbx p f = some n ∧ inB s.1 s.2 n = true := by
 unfold zat
 rw [List.all_eq_true]
 constructor
 · intro q f s hs
   obtain ⟨x, hx, e1, e2⟩ := zbe hs
   have := q x hx
   unfold zci at this
   rw [e1] at this
   cases e : zbx p f with
   | none => rw [e] at this; cases this
   | some n => rw [e, e2] at this; exact ⟨n, rfl, this⟩
 · intro q x hx
   obtain ⟨n, h1, h2⟩ := q x.1 x.2 (zb3 h hx)
   rw [zcJ h1]
   exact h2
theorem zff {w1 w2 m : List WP} (h1 : (w1.map (·.1)).Pairwise ltF) (h2 : (w2.map (·.1)).Pairwise ltF) (h : IsMet w1 w2 m) (p : List PP) : zat m p = (zat w1 p && zat w2 p) := by
 rw [Bool.eq_iff_iff, Bool.and_eq_true, zch h.asc, zch h1, zch h2]
 constructor
 · intro q
   refine ⟨fun f s hs => ?_, fun f s hs => ?_⟩
   · cases e : zal w2 f with
     | none => exact q f s (by rw [h.sp, hs, e]; rfl)
     | some t =>
      obtain ⟨n, n1, n2⟩ := q f (mLo s.1 t.1, mHi s.2 t.2) (by rw [h.sp, hs, e]; rfl)
      have := zfK s.1 s.2 t.1 t.2 n
      rw [this, Bool.and_eq_true] at n2
      exact ⟨n, n1, n2.1⟩
   · cases e : zal w1 f with
     | none => exact q f s (by rw [h.sp, hs, e]; rfl)
     | some t =>
      obtain ⟨n, n1, n2⟩ := q f (mLo t.1 s.1, mHi t.2 s.2) (by rw [h.sp, hs, e]; rfl)
      have := zfK t.1 t.2 s.1 s.2 n
      rw [this, Bool.and_eq_true] at n2
      exact ⟨n, n1, n2.2⟩
 · rintro ⟨q1, q2⟩ f s hs
   rw [h.sp] at hs
   cases e1 : zal w1 f with
   | none =>
    rw [e1] at hs
    exact q2 f s hs
   | some t =>
    cases e2 : zal w2 f with
    | none => rw [e1, e2] at hs; cases hs; exact q1 f _ e1
    | some u =>
     rw [e1, e2] at hs
     cases hs
     obtain ⟨n, n1, n2⟩ := q1 f t e1
     obtain ⟨n', n1', n2'⟩ := q2 f u e2
     rw [n1] at n1'
     cases n1'
     refine ⟨n, n1, ?_⟩
     rw [zfK, n2, n2']
     rfl
theorem zfi {w : List WP} {x : WP} (h : (w.map (·.1)).Pairwise ltF) (hx : x ∈ w) : zal w x.1 = some x.2 := zb3 h hx
theorem zg8 : ∀ {m m' : List WP}, (m.map (·.1)).Pairwise ltF → (m'.map (·.1)).Pairwise ltF → (∀ f, zal m f = zal m' f) → m = m'
 | [], [], _, _, _ => rfl
 | [], y :: r, _, _, h => by have := h y.1; simp [zal] at this
 | x :: r, [], _, _, h => by have := h x.1; simp [zal] at this
 | x :: r, y :: r', h1, h2, h => by
  have hx := zfi h1 (x := x) (by simp)
  have hy := zfi h2 (x := y) (by simp)
  have g1 := h1
  have g2 := h2
  rw [List.map_cons, List.pairwise_cons] at g1 g2
  have e : x.1 = y.1 := by
   rw [h x.1] at hx
   rw [← h y.1] at hy
   obtain ⟨u, hu, u1, _⟩ := zbe hx
   obtain ⟨v, hv, v1, _⟩ := zbe hy
   rcases List.mem_cons.mp hu with rfl | hu
   · exact u1.symm
   · rcases List.mem_cons.mp hv with rfl | hv
     · exact v1
     · have k1 := g2.1 _ (List.mem_map_of_mem (f := (·.1)) hu)
       have k2 := g1.1 _ (List.mem_map_of_mem (f := (·.1)) hv)
       rw [u1] at k1
       rw [v1] at k2
       exact absurd (zc5 k1 k2) (List.lt_irrefl _)
  have e2 : x = y := by
   rw [h x.1, e, hy] at hx
   exact Prod.ext e (Option.some.inj hx).symm
  subst e2
  have tails : ∀ f, zal r f = zal r' f := fun f => by
   by_cases hf : x.1 = f
   · have n1 : zal r f = none := by
      cases e : zal r f with
      | none => rfl
      | some s => obtain ⟨u, hu, u1, _⟩ := zbe e; have := g1.1 _ (List.mem_map_of_mem (f := (·.1)) hu); rw [u1, hf] at this; exact absurd this (List.lt_irrefl _)
     have n2 : zal r' f = none := by
      cases e : zal r' f with
      | none => rfl
      | some s => obtain ⟨u, hu, u1, _⟩ := zbe e; have := g2.1 _ (List.mem_map_of_mem (f := (·.1)) hu); rw [u1, hf] at this; exact absurd this (List.lt_irrefl _)
     rw [n1, n2]
   · have := h f
     unfold zal at this ⊢
     rw [List.find?_cons_of_neg (by simpa using hf), List.find?_cons_of_neg (by simpa using hf)] at this
     exact this
  rw [zg8 g1.2 g2.2 tails]
theorem zfM {lo hi : Option Int} : leO lo hi = !apart lo hi := by
 cases lo <;> cases hi <;> simp only [leO, apart, Bool.not_false]
 rw [Bool.eq_iff_iff]
 simp
def ltI (a b : Int) : Bool := decide (a < b)
def lexP {α β : Type} [DecidableEq α] (l : α → α → Bool) (m : β → β → Bool) (x y : α × β) : Bool := if x.1 = y.1 then m x.2 y.2 else l x.1 y.1
def lpO : Option Int → Int × Int
 | none => (0, 0)
 | some l => (1, l)
def hpO : Option Int → Int × Int
 | none => (1, 0)
 | some h => (0, h)
def d2 (p : Int × Int) : PD := .tup [.int p.1, .int p.2]
abbrev RKy := Str × (Int × Int) × (Int × Int)
def ky (p : WP) : RKy := (p.1, lpO p.2.1, hpO p.2.2)
def lt2 : Int × Int → Int × Int → Bool := lexP ltI ltI
def zmi (H : Hp) (d : Addr) (w : List WP) : Prop := ∃ bs : List (Str × V), H d = some (.dK (kvS bs)) ∧ bs.map (·.1) = w.map (·.1) ∧ ∀ f : Str, match zal w f with
 | none => getS bs f = none
 | some s => ∃ t, getS bs f = some (.ref t) ∧ H t = some (.tup [eV s.1, eV s.2])
def zdf : Sp := fun vs H Q _ => ∃ (a : Addr) (w : List WP), vs = [.ref a] ∧ WishAt H a w ∧ WOk w ∧ ∀ d H', Same H H' → H d = none → zmi H' d w → Q (.ref d) H'
def zig : Sp := fun vs H Q _ => ∃ (a b : Addr) (w1 w2 : List WP), vs = [.ref a, .ref b] ∧ WishAt H a w1 ∧ WishAt H b w2 ∧ WOk w1 ∧ WOk w2 ∧ w1.length + w2.length ≤ 60 ∧
 (zbZ w1 w2 = true → ∀ H', Same H H' → Q .non H') ∧ (zbZ w1 w2 = false → ∀ r m H', IsMet w1 w2 m → Same H H' → WishAt H' r m → Q (.ref r) H')
theorem zf8 {l : List Str} (h : l.Pairwise ltF) : l.Nodup := h.imp fun h e => zdv h e
theorem zfk (g : Str → SPN) (f : Str) : ∀ ms : List Str, zal (ms.map fun f => (f, g f)) f = if f ∈ ms then some (g f) else none
 | [] => rfl
 | x :: ms => by
  have ih := zfk g f ms
  unfold zal at *
  by_cases h : x = f
  · subst h; simp
  · rw [List.map_cons, List.find?_cons_of_neg (by simpa using h), ih]
    by_cases h2 : f ∈ ms
    · rw [if_pos h2, if_pos (List.mem_cons_of_mem _ h2)]
    · rw [if_neg h2, if_neg (fun z => (List.mem_cons.mp z).elim (fun e => h e.symm) h2)]
def zhU (w1 w2 : List WP) (f : Str) : SPN := (metO (zal w1 f) (zal w2 f)).getD (none, none)
def zee (w1 w2 : List WP) (ms : List Str) : List WP := ms.map fun f => (f, zhU w1 w2 f)
theorem zhn {w1 w2 : List WP} {ms : List Str} (asc : ms.Pairwise ltF) (hk : ∀ f, f ∈ ms ↔ (metO (zal w1 f) (zal w2 f)).isSome = true) (hl : ms.length ≤ w1.length + w2.length) : IsMet w1 w2 (zee w1 w2 ms) := by
 refine ⟨by unfold zee; rw [List.length_map]; exact hl, ?_, fun f => ?_⟩
 · unfold zee
   rw [List.map_map]
   have : ((fun x : WP => x.1) ∘ fun f => (f, zhU w1 w2 f)) = id := rfl
   rw [this, List.map_id]
   exact asc
 · unfold zee
   rw [zfk]
   cases e : metO (zal w1 f) (zal w2 f) with
   | none => rw [if_neg (fun z => by have := (hk f).mp z; rw [e] at this; cases this)]
   | some s =>
    rw [if_pos ((hk f).mpr (by rw [e]; rfl))]
    unfold zhU
    rw [e]
    rfl
theorem zjV {K : PySem.W.Frag} {H : Hp} {z p : Addr} {Q : VK} {js : Cap} {σ cap : St} {te : TE} (base : List WP) (hb : base.length ≤ 100) (e : SqL K H z ((base.map (·.1)).map V.str)) (hp : H p = none) (hσ : inn js σ = none :: cap)
 (he : ∀ x ∈ base, ∀ H' (R : VK), Same H H' → (∀ t, H' t = none → R (.ref t) (upd H' t (.tup [.str x.1, eV x.2.1, eV x.2.2]))) → te (some (.str x.1) :: cap) H' R)
 (hq : ∀ H' (qs : List (Addr × WP)), Same H H' → qs.map (·.2) = base → H' p = some (.lst (qs.map fun q => V.ref q.1)) → (∀ q ∈ qs, H' q.1 = some (.tup [.str q.2.1, eV q.2.2.1, eV q.2.2.2])) → Q (.ref p) H') : zcq (Itl K z) p js (zcO 0) tYes te σ H Q := by
 have s0 := zae hp (.lst [])
 refine zdm (xs := (base.map (·.1)).map V.str) (fun i σ' ys H' => (∃ v, σ' = v :: cap) ∧ Same H H' ∧ H' p = some (.lst ys) ∧ ∃ qs : List (Addr × WP), ys = qs.map (fun q => V.ref q.1) ∧ qs.map (·.2) = base.take i ∧ ∀ q ∈ qs, H' q.1 = some (.tup [.str q.2.1, eV q.2.2.1, eV q.2.2.2])) ⟨⟨_, hσ⟩, s0, zab, [], rfl, rfl, fun q hq => by simp at hq⟩ ?_ ?_ ?_
 · rintro i σ' ys H' hi ⟨_, s, h1, qs, rfl, h3, _⟩
   refine ⟨s.seq e, h1, ?_⟩
   have := congrArg List.length h3
   rw [List.length_map, List.length_take] at this
   rw [List.length_map]
   exact zax (by omega)
 · rintro i x σ' ys H' N hx ⟨⟨v, rfl⟩, s, h1, qs, rfl, h3, h4⟩ hN
   rw [List.getElem?_map, List.getElem?_map] at hx
   cases e1 : base[i]? with
   | none => rw [e1] at hx; cases hx
   | some m =>
    rw [e1] at hx
    obtain rfl : V.str m.1 = x := Option.some.inj hx
    refine he m (List.mem_of_getElem? e1) H' _ s fun t ht => ?_
    have st := zae ht (.tup [.str m.1, eV m.2.1, eV m.2.2])
    have h5 := st _ _ h1
    have tl := zb0 (o := .lst (qs.map (fun q => V.ref q.1) ++ [V.ref t])) h5
    refine ⟨h5, hN _ _ _ ⟨⟨_, rfl⟩, zbL (s.trans st) hp, zab, qs ++ [(t, m)], ?_, ?_, ?_⟩⟩
    · rw [List.map_append]; rfl
    · rw [List.map_append, h3, zaw e1]; rfl
    · intro q hq
      rcases List.mem_append.mp hq with z | z
      · exact tl _ _ (st _ _ (h4 q z))
      · rw [List.mem_singleton.mp z]
        exact tl _ _ zab
 · rintro σ' ys H' ⟨_, s, h1, qs, rfl, h3, h4⟩
   refine hq H' qs s ?_ h1 h4
   rw [h3, List.take_of_length_le (by simp)]
theorem zjD {w : List WP} {f : Str} (h : f ∈ w.map (·.1)) : ∃ s, zal w f = some s := by
 cases e : zal w f with
 | some s => exact ⟨s, rfl⟩
 | none =>
  obtain ⟨x, hx, hf⟩ := List.mem_map.mp h
  exact absurd hf (zfj e x hx)
end L2
namespace L2
open PySem PySem.Spec PyProof.Rows PySem.W
section
variable {X : Cx}
def zl4 : R2 := fun x y H Q => ∃ a b xs ys, x = .ref a ∧ y = .ref b ∧ H a = some (.tup xs) ∧ H b = some (.tup ys) ∧ xs.length + ys.length ≤ sizeLine ∧ ∀ p H', Same H H' → H' p = some (.tup (xs ++ ys)) → Q (.ref p) H'
theorem zeQ : OpR X (binaryOp .Add) zl4 := by
 intro pins s σ H x y v u Q I rx ry h
 obtain ⟨a, b, xs, ys, rfl, rfl, ha, hb, hz, q⟩ := h
 cases rx
 cases ry
 obtain ⟨its, r1, p1, _⟩ := I.tuple (SqT.of ha)
 obtain ⟨its2, r2, p2, _⟩ := I.tuple (SqT.of hb)
 by_cases hx : xs = []
 · subst hx
   cases r1
   obtain ⟨⟨cls, dd, data, sl⟩, ho, hc, n, hd⟩ := id p1
   obtain ⟨⟨cls2, dd2, data2, sl2⟩, ho2, hc2, n2, hd2⟩ := id p2
   simp only at hc hd hc2 hd2
   subst hc hd hc2 hd2
   exact concat_meets ⟨_, ho, rfl⟩ ⟨_, ho2, rfl⟩ noFill_tuple_add seq_tuple_add PySem.F.slot_tuple_add PySem.F.entry_tuple_add (PySem.F.args_tuple_add_2 _ _)
    (tuple_addW0 a b _ _ n n2 dd dd2 sl sl2 rfl) ⟨ho, ho2, ⟨.ref b, H, I, rfl, q b H (Same.refl _) hb⟩⟩
 · refine HT.cat_tup p1 p2 (fun z => hx (r1.nil_iff.mp z)) (fun z => ⟨.ref a, H, I, rfl, q a H (Same.refl _) (by rw [r2.nil_iff.mp z, List.append_nil]; exact ha)⟩) (fun z => ?_) (by rw [← r1.length, ← r2.length]; exact hz)
   have hn := I.hok.fresh (Nat.le_refl _)
   refine ⟨.ref s.heap.objs.size, _, I.laid (t' := s.toks) (o := .tup (xs ++ ys)) (fun b ob q => Heap.get?_push_of_some _ q) (Nat.le_refl _) ?_, rfl, q _ _ (zae hn _) zab⟩
   exact ⟨by rw [List.length_append]; exact hz, _, r1.append r2, IsTupP.new _ _⟩
def rSlU : V → Option Int → Option Int → Hp → VK → Prop := fun x lo hi H Q => ∃ a xs, x = .ref a ∧ H a = some (.tup xs) ∧ ∀ p H', Same H H' → H' p = some (.tup (cutV xs lo hi)) → Q (.ref p) H'
theorem zh6 {xs : List V} {lo hi : Option Int} (h : HT.sIx xs.length 0 lo = 0 ∧ HT.sIx xs.length xs.length hi = xs.length) : cutV xs lo hi = xs := by
 unfold cutV
 rw [h.1, h.2, List.drop_zero, Nat.sub_zero]
 exact List.take_of_length_le (Nat.le_refl _)
theorem zeC : SlR X rSlU := by
 intro pins s σ H x v vl vu lo hi sl Q I rx hs pl pu h
 obtain ⟨a, xs, rfl, ha, q⟩ := h
 exact zil pins s σ H (.ref a) v vl vu lo hi sl Q I rx hs pl pu ⟨a, xs, rfl, SqT.of ha, fun hw => q a H (Same.refl _) (by rw [zh6 hw]; exact ha), fun _ p hp => q p _ (zae hp _) zab⟩
theorem zd6 {xs : List V} {k : Int} {n : Nat} (e : k = (n : Int)) : cutV xs none (some k) = xs.take n := by
 subst e
 unfold cutV
 rw [HT.sIx_none, HT.sIx_nat, List.drop_zero, Nat.sub_zero]
 by_cases h : n ≤ xs.length
 · rw [Nat.min_eq_left h]
 · rw [Nat.min_eq_right (by omega), List.take_of_length_le (Nat.le_refl _), List.take_of_length_le (by omega)]
theorem zd8 {xs : List V} {k : Int} {n : Nat} (e : k = (n : Int)) : cutV xs (some k) none = xs.drop n := by
 subst e
 unfold cutV
 rw [HT.sIx_none, HT.sIx_nat]
 by_cases h : n ≤ xs.length
 · rw [Nat.min_eq_left h]
   exact List.take_of_length_le (by simp)
 · rw [Nat.min_eq_right (by omega), Nat.sub_self, List.take_zero, List.drop_eq_nil_of_le (by omega)]
end
end L2
namespace L2
open PySem PySem.Spec PyProof.Rows
section
variable {prog : Program} {w : World} {A : Around} {E : Value → Shared → Prop} {s : Shared}
end
section
variable {α : Type} {L : α → α → Bool}
variable {a b out : List α} {ia ib k : Nat}
end
section
variable {prog : Program} {w : World} {A : Around} {E : Value → Shared → Prop} {s : Shared} {κ : SortKind} {L : Keyed → Keyed → Bool} {S : Keyed → Prop}
end
end L2
set_option maxHeartbeats 4000000
namespace L2
open PySem PySem.Spec PyProof.Rows
section
variable {prog : Program} {w : World} {A : Around} {E : Value → Shared → Prop} {s : Shared} {κ : SortKind} {L : Keyed → Keyed → Bool} {S : Keyed → Prop}
variable {a b out : Array Keyed} {ia ib : Nat}
end
section
variable {α : Type} {L : α → α → Bool}
variable {a b out : List α} {na nb m : Nat}
end
section
variable {prog : Program} {w : World} {A : Around} {E : Value → Shared → Prop} {s : Shared} {κ : SortKind} {L : Keyed → Keyed → Bool} {S : Keyed → Prop}
variable {a b out : Array Keyed} {na nb : Nat}
end
section
variable {prog : Program} {w : World} {A : Around} {E : Value → Shared → Prop} {s : Shared} {κ : SortKind} {L : Keyed → Keyed → Bool} {S : Keyed → Prop}
end
section
variable {prog : Program} {w : World} {A : Around} {E : Value → Shared → Prop} {s : Shared} {κ : SortKind} {L : Keyed → Keyed → Bool} {S : Keyed → Prop}
end
section
variable {prog : Program} {w : World} {A : Around} {E : Value → Shared → Prop} {s : Shared} {κ : SortKind} {L : Keyed → Keyed → Bool} {S : Keyed → Prop}
def StA (st st' : SortSt) : Prop := ∃ xs, st' = setArr st xs
end
section
variable {prog : Program} {w : World} {A : Around} {E : Value → Shared → Prop} {s : Shared} {κ : SortKind} {L : Keyed → Keyed → Bool} {S : Keyed → Prop}
structure At (st0 st : SortSt) (P X R C : List Keyed) : Prop where
 same : StA st0 st
 arr : (arrOf st).toList = P ++ (C ++ R)
 perm : C.Perm X
end
abbrev Run := List Keyed × Nat
def flat (rs : List Run) : List Keyed := (rs.map (·.1)).flatten
section
variable {prog : Program} {w : World} {A : Around} {E : Value → Shared → Prop} {s : Shared} {κ : SortKind} {L : Keyed → Keyed → Bool} {S : Keyed → Prop}
end
end L2
set_option maxHeartbeats 1000000
namespace L2
open PySem PySem.Spec PyProof.Rows PySem.W
section
variable {prog : Program} {w : World} {A : Around} {E : Value → Shared → Prop} {s : Shared} {κ : SortKind}
end
end L2
namespace L2
open PySem PySem.Spec PyProof.Rows PySem.W
section
variable {X : Cx} {pins : List (Addr × Obj)} {σ : St} {H : Hp} {s : Shared} {a : Addr} {o : HO}
end
end L2
namespace L2
open PySem PySem.Spec PyProof.Rows PySem.W
section
variable {X : Cx} {pins : List (Addr × Obj)} {σ : St} {H : Hp} {s : Shared}
end
end L2
namespace L2
open PySem PySem.Spec PyProof.Rows
section
variable {P : Program} {w : World} {base : Heap} {l : List Env} {H H' : Hp} {s0 s' : Shared} {a C t : Addr} {B h' : Heap}
end
section
variable {X : Cx} {pins : List (Addr × Obj)} {σ : St} {H H' : Hp} {s s' : Shared} {a C : Addr}
end
def del (H : Hp) (a : Addr) : Hp := fun b => if b = a then none else H b
section
variable {X : Cx} {pins : List (Addr × Obj)} {σ : St} {H : Hp} {s : Shared} {e C : Addr}
end
section
variable {prog : Program} {w : World} {A : Around} {E : Value → Shared → Prop} {h : Heap} {g : Array GenState} {d : Drawn} {t : Nat} {os : OsState} {nm q : Str} {C N : Addr} {bs bm bmB : List Value} {hdct : Bool} {sn : List Str} {sub : List Value}
variable {ab : Bool} {col : Option Bool} {dd : Option Addr} {k0 k1 k2 k3 k5 : Option Value} {B newId initId : String} {rest : List Value}
end
section
variable {prog : Program} {w : World} {A : Around} {E : Value → Shared → Prop} {h : Heap} {g : Array GenState} {d : Drawn} {t : Nat} {os : OsState} {nm q : Str} {C N : Addr} {bs bm bmB : List Value} {hdct : Bool} {sn : List Str} {sub : List Value}
variable {ab : Bool} {col : Option Bool} {dd : Option Addr} {k0 k1 k2 k3 k5 : Option Value} {B newId initId : String} {rest : List Value}
end
section
variable {X : Cx}
end
section
variable {P : Program} {w : World} {K : PySem.W.Frag} {mg : Str → Option Value} {base : Heap} {N : List Str} {qual : Str} {scope : Scope} {f : Addr} {cd : Value} {A : Around} {outer : List Env} {s : Shared} {H : Hp} {E : XK}
end
section
variable {P : Program} {w : World} {K : PySem.W.Frag} {mg : Str → Option Value} {base : Heap} {N : List Str} {qual : Str} {scope : Scope} {f : Addr} {cd : Value} {A : Around} {outer : List Env} {s : Shared} {H : Hp} {E : XK}
end
section
variable {X : Cx} {E : XK} {C fI : Addr} {fd : FuncData} {k : Nat} {x : Str} {e1 : Expr} {t : TA} {np cpos pos : Pos}
end
section
variable {X : Cx} {pins : List (Addr × Obj)} {σ : St} {H : Hp} {s : Shared} {a : Addr} {o : HO}
end
section
variable {X : Cx} {pins : List (Addr × Obj)} {σ : St} {H : Hp} {s : Shared} {a : Addr}
end
section
variable {X : Cx} {pins pins' : List (Addr × Obj)} {σ : St} {H : Hp} {s : Shared} {RR : St → Value → Hp → Prop}
end
section
variable {P : Program} {w : World} {base : Heap} {l : List Env} {H H' : Hp} {s0 s' : Shared} {a C t : Addr} {B : Heap}
end
section
variable {M : Model} {A : Around} {E : Value → Shared → Prop} {h : Heap} {g : Array GenState} {d : Drawn} {t : Nat} {os : OsState} {nm q nm0 q0 : Str} {C N C0 N0 e : Addr} {bs bm bs0 bm0 : List Value} {hdct hdct0 : Bool} {sn sn0 : List Str} {sub sub0 : List Value}
variable {ab ab0 : Bool} {col col0 : Option Bool} {dd dd0 : Option Addr} {k0 k1 k2 k3 k5 j0 j1 j2 j3 j5 : Option Value} {newId newId0 : String} {oe : Obj}
end
section
variable {X : Cx} {C0 : Addr} {x n : Str} {i : Nat} {body suite : List Stmt} {b₀ : Stmt} {np hpos pos : Pos} {tb : (St → Value → Hp → Prop) → TS} {ts : TS}
end
section
variable {X : Cx}
end
open PySem.W (Looks looks_findIn looks_mroIn looks_typeIn)
section
variable {prog : Program} {w : World} {A : Around} {E : Value → Shared → Prop} {K : PySem.W.Frag} {h : Heap} {g : Array GenState} {d : Drawn} {t : Nat} {os : OsState} {a C : Addr}
end
section
variable {X : Cx}
def clsV : V → Value
 | .ref D => .ref D
 | .ty n => .type n
 | _ => .none
def zi1 : V → Bool
 | .ref _ => true
 | .ty _ => true
 | _ => false
theorem zka {c : V} {u : Value} (h : zi1 c = true) (r : RelV c u) : u = clsV c := by
 cases c with
 | ref D => exact r
 | ty n => exact r
 | _ => cases h
theorem zfY : ∀ {cs : List V} {us : List Value}, cs.all zi1 = true → Vals cs us → us = cs.map clsV
 | [], _, _, .nil => rfl
 | c :: cs, _, h, .cons r rs => by
  rw [List.all_cons, Bool.and_eq_true] at h
  rw [zka h.1 r, zfY h.2 rs]; rfl
end
end L2
namespace L2
open PySem PySem.Spec PyProof.Rows
section
variable {X : Cx} {pos : Pos}
end
end L2
namespace WB
end WB
namespace WB
end WB
namespace L2
open PySem PySem.Spec PyProof.Rows
section
variable {X : Cx}
variable {e : Expr} {te : TE} {pos p2 p3 p4 : Pos}
end
end L2
namespace WB
end WB
namespace L2
open PySem PySem.Spec PyProof.Rows
inductive DX where
 | non
 | bl (b : Bool)
 | int (i : Int)
 | str (x : Str)
 | lst (ds : List DX)
 | tup (ds : List DX)
 | dic
mutual
def pd : DX → PyData
 | .non => .none
 | .bl b => .bool b
 | .int i => .int i
 | .str x => .str x
 | .lst ds => .list (pds ds)
 | .tup ds => .tuple (pds ds)
 | .dic => .dict []
def pds : List DX → List PyData
 | [] => []
 | d :: ds => pd d :: pds ds
end
section
variable {X : Cx} {pins : List (Addr × Obj)} {σ : St} {H : Hp} {s : Shared}
end
section
variable {X : Cx}
end
section
variable {X : Cx} {pins : List (Addr × Obj)} {σ : St} {H : Hp} {s : Shared}
end
open PySem.AutoSeq1 (wpAny_loadPart')
open PySem.MeetsSeq PySem.MeetsSeq2 PySem.MeetsSeq3 PySem.SeqRoads2
def EqIn (P : Program) (w : World) (A : Around) (s : Shared) (y x : Value) : Prop := ∀ (E : Value → Shared → Prop) (Q : Bool → Shared → Prop), Q true s → wpAny (model P w) A (eqBool y x) Q E s
theorem EqIn.of {P : Program} {w : World} {A : Around} {s : Shared} {y x : Value} (h : SeqAt.EqAt A s y x true) : EqIn P w A s y x := fun E Q q => h P w E Q q
section
variable {P : Program} {w : World}
theorem zgV (l b : Addr) (items items2 : Array Value) (n n2 : Nat) (dd dd2 : Option Addr) (sl sl2 : Array (Option Value)) (hsz : items.size = items2.size) (k : Nat) :
 ∀ i : Nat, items.size - i = k → ∀ (A : Around) (R : Result → Shared → Prop) (s : Shared), s.heap.get? l = some { cls := .type "list", dict := dd, data := .seq items n, slots := sl } → s.heap.get? b = some { cls := .type "list", dict := dd2, data := .seq items2 n2, slots := sl2 } →
  (∀ j (h1 : j < items.size) (h2 : j < items2.size), EqIn P w A.in1 s items[j] items2[j]) → R (.ok (.ret (.bool true))) s →
  wpAny (model P w) A.in1 (Builtin.«list.__eq__.loop» ⟨[.ref l, .ref b, rawInt i, rawInt 2], []⟩) (fun fin s' => match fin with | .done f => R (.ok f) s' | .again c' => c'.quiet = true ∧ codeAny (model P w) A c' R s') (fun e s' => R (.error e) s') s := by
 induction k with
 | zero =>
  intro i hk A R s hl hb he h
  obtain ⟨hp, g, d, tk, os⟩ := s
  wp_walk using wpAny_loadPart' hl, wpAny_loadPart' hb
  have o1 : items[((i : Nat) : Int).toNat]? = none := by simp; omega
  have o2 : items2[((i : Nat) : Int).toNat]? = none := by simp; omega
  rw [o1, o2]
  wp_walk using wpAny_loadPart' hl, wpAny_loadPart' hb
  show R (.ok (.ret (.bool (items.size == items2.size)))) _
  rw [hsz]
  simpa using h
 | succ k ih =>
  intro i hk A R s hl hb he h
  obtain ⟨hp, g, d, tk, os⟩ := s
  wp_walk using wpAny_loadPart' hl, wpAny_loadPart' hb
  have lt1 : i < items.size := by omega
  have lt2 : i < items2.size := by omega
  have o1 : items[((i : Nat) : Int).toNat]? = some items[i] := by simp [lt1]
  have o2 : items2[((i : Nat) : Int).toNat]? = some items2[i] := by simp [lt2]
  have hc : ((i : Int) + 1) = ((i + 1 : Nat) : Int) := by push_cast; rfl
  rw [o1, o2]
  refine wpAny_bind (he i lt1 lt2 _ _ ?_)
  wp_walk
  rw [hc]
  exact ⟨plainId_quiet plain_eq_loop _, codeAny_builtin entry_eq_loop (by
   rw [Around.under_plainId plain_eq_loop _]
   exact ih (i + 1) (by omega) A R _ hl hb he h)⟩
theorem zlH (l b : Addr) (items items2 : Array Value) (n n2 : Nat) (dd dd2 : Option Addr) (sl sl2 : Array (Option Value)) (hsz : items.size = items2.size) (A : Around) (R : Result → Shared → Prop) (s : Shared)
 (hl : s.heap.get? l = some { cls := .type "list", dict := dd, data := .seq items n, slots := sl }) (hb : s.heap.get? b = some { cls := .type "list", dict := dd2, data := .seq items2 n2, slots := sl2 })
 (he : ∀ j (h1 : j < items.size) (h2 : j < items2.size), EqIn P w A.in1 s items[j] items2[j]) (h : R (.ok (.ret (.bool true))) s) :
 wpAny (model P w) A.in1 (Builtin.«list.__eq__» ⟨[.ref l, .ref b], []⟩) (fun fin s' => match fin with | .done f => R (.ok f) s' | .again c' => c'.quiet = true ∧ codeAny (model P w) A c' R s') (fun e s' => R (.error e) s') s := by
 obtain ⟨hp, g, d, tk, os⟩ := s
 have f3 := AutoSeq1.sub_list_list
 have hne : ¬ (items.size != items2.size) = true := by simp [hsz]
 wp_walk using wpAny_loadPart' hl, wpAny_loadPart' hb
 exact ⟨plainId_quiet plain_eq_loop _, codeAny_builtin entry_eq_loop (by
  rw [Around.under_plainId plain_eq_loop _]
  exact zgV l b items items2 n n2 dd dd2 sl sl2 hsz _ 0 rfl A R _ hl hb he h)⟩
theorem zgv {l b : Addr} {items items2 : Array Value} {A : Around} {s : Shared} {E : Value → Shared → Prop} {Q : Value → Shared → Prop} (hl : s.heap.IsList l items) (hb : s.heap.IsList b items2) (hsz : items.size = items2.size) (hu : A.units < cLine)
 (he : ∀ j (h1 : j < items.size) (h2 : j < items2.size), EqIn P w A.in1 s items[j] items2[j]) (h : Q (.bool true) s) : wpAny (model P w) A (richCompare .Eq (.ref l) (.ref b)) Q E s := by
 obtain ⟨⟨c1, dd, data, sl⟩, ho, hc, n, hd⟩ := id hl
 obtain ⟨⟨c2, dd2, data2, sl2⟩, ho2, hc2, n2, hd2⟩ := id hb
 simp only at hc hd hc2 hd2
 subst hc hd hc2 hd2
 refine wpAny_richCompare_same_room (op := .Eq) ⟨_, ho, rfl⟩ ⟨_, ho2, rfl⟩ F.slot_list_eq ?_ hu
 refine wpAny_call (codeAny_call_builtin F.slot_list_eq.plain F.entry_list_eq (F.slot_list_eq.check _ _ _ _ _ _ _ _ ⟨_, ho, rfl⟩ (F.args_list_eq_2 _ _) ?_))
 exact zlH l b items items2 n n2 dd dd2 sl sl2 hsz A (wants (fun v s' => v ≠ .notImplemented ∧ Q v s') E) s ho ho2 he (show Value.bool true ≠ Value.notImplemented ∧ Q (.bool true) s from ⟨(fun x => nomatch x), h⟩)
theorem zhf {l b : Addr} {items items2 : Array Value} {A : Around} {s : Shared} {E : Value → Shared → Prop} {Q : Value → Shared → Prop} (hl : s.heap.IsTuple l items) (hb : s.heap.IsTuple b items2) (hsz : items.size = items2.size) (hu : A.units < cLine)
 (he : ∀ j (h1 : j < items.size) (h2 : j < items2.size), EqIn P w A.in1 s items[j] items2[j]) (h : Q (.bool true) s) : wpAny (model P w) A (richCompare .Eq (.ref l) (.ref b)) Q E s := by
 obtain ⟨⟨c1, dd, data, sl⟩, ho, hc, n, hd⟩ := id hl
 obtain ⟨⟨c2, dd2, data2, sl2⟩, ho2, hc2, n2, hd2⟩ := id hb
 simp only at hc hd hc2 hd2
 subst hc hd hc2 hd2
 refine wpAny_richCompare_same_room (op := .Eq) ⟨_, ho, rfl⟩ ⟨_, ho2, rfl⟩ F.slot_tuple_eq (wpAny_call_entry F.slot_tuple_eq ⟨_, ho, rfl⟩ F.entry_tuple_eq ?_ (F.args_tuple_eq_2 _ _)) hu
 obtain ⟨hp, g, d, tk, os⟩ := s
 have f2 := AutoSeq1.sub_tuple_tuple
 have hZ : (items.toList.zip items2.toList).length = items.size := by simp [hsz]
 wp_walk using wpAny_loadPart' ho, wpAny_loadPart' ho2, wpAny_forIn_list _ (fun rest b s' => b.1 = none ∧ s' = ⟨hp, g, d, tk, os⟩ ∧ ∃ i, rest = (items.toList.zip items2.toList).drop i) _
 case turn =>
  rintro ⟨y, x⟩ rest b s' ⟨hb', rfl, i, hz⟩
  have lt0 : i < (items.toList.zip items2.toList).length := by
   rcases Nat.lt_or_ge i (items.toList.zip items2.toList).length with h' | h'
   · exact h'
   · rw [List.drop_of_length_le h'] at hz; cases hz
  have h1 : i < items.size := hZ ▸ lt0
  have h2 : i < items2.size := hsz ▸ h1
  rw [List.drop_eq_getElem_cons lt0] at hz
  injection hz with hyx hrest
  have hy : y = items[i] := by have := congrArg Prod.fst hyx; simpa using this
  have hx : x = items2[i] := by have := congrArg Prod.snd hyx; simpa using this
  subst hy hx
  refine wpAny_bind (he i h1 h2 _ _ ?_)
  wp_walk
  exact ⟨rfl, rfl, i + 1, hrest⟩
 case fin =>
  rintro ⟨b1, b2⟩ s' ⟨hb', rfl, i, hz⟩
  simp only at hb'
  subst hb'
  wp_walk
  refine ⟨_, rfl, ?_⟩
  have e : Builtin.Tuple.tupleCompareSizes .Eq items.size items2.size = Value.bool true := by simp [Builtin.Tuple.tupleCompareSizes, hsz]
  first | (rw [e]; exact ⟨(fun x => nomatch x), h⟩) | (simpa [Builtin.Tuple.tupleCompareSizes, hsz] using h)
 case h => exact ⟨rfl, rfl, 0, rfl⟩
end
end L2
namespace L2
open PySem PySem.Spec PyProof.Rows PySem.Calls
section
variable {P : Program} {w : World} {κ : Type} [DecidableEq κ] {knd : KeyKind P w κ} {A : Around} {E : Value → Shared → Prop} {s : Shared}
theorem zg4 {nm : String} {a b : Addr} {ka kb : List (κ × Value)} {Q : Bool → Shared → Prop} (ha : (a == sysModules) = false) (hb : (b == sysModules) = false)
 (da : s.heap.DictOf knd a ka) (db : s.heap.DictOf knd b kb) (hlen : ka.length = kb.length) (hits : ∀ (i : Nat) (k : κ) (v : Value), ka[i]? = some (k, v) → ∃ y, valueAt kb k = some y ∧ EqIn P w A s v y) (h : Q true s) :
 wpAny (model P w) A (Builtin.Dict.samePairs nm a b) Q E s := by
 obtain ⟨o1, m1, p1, g1, _, d1, q1, z1, _⟩ := da
 obtain ⟨o2, m2, p2, g2, _, d2, q2, z2, _⟩ := db
 have n1 : ka.length = m1.size := by rw [← z1.length]; exact Array.length_toList
 have n2 : kb.length = m2.size := by rw [← z2.length]; exact Array.length_toList
 have look : ∀ k, findBy knd.is m2 k = valueAt kb k := fun k => by
  rw [← z2.find k]
  clear n2 z2 q2 d2 g2
  obtain ⟨l⟩ := m2
  simp [findBy]
 have same : m1.size = m2.size := by omega
 unfold Builtin.Dict.samePairs Builtin.Dict.showsAll
 rw [if_neg (by rw [ha]; exact Bool.false_ne_true), if_neg (by rw [hb]; exact Bool.false_ne_true)]
 refine wpAny_bind (wpAny_pure (wpAny_bind (wpAny_pure (wpAny_bind (wpAny_dictEntries g1 d1 ?_)))))
 dsimp only
 refine wpAny_bind (wpAny_dictEntries g2 d2 ?_)
 rw [if_neg (by rw [same]; simp)]
 refine wpAny_bind (wpAny_dictEpoch g1 d1 (wpAny_bind ?_))
 rw [Std.Legacy.Range.forIn_eq_forIn_range']
 simp only [Std.Legacy.Range.size, Nat.sub_zero, Nat.add_sub_cancel, Nat.div_one]
 refine wpAny_forIn_list _ (fun rest q s' => s' = s ∧ q = (none, ()) ∧ ∃ i, rest = List.range' i (m1.size - i) ∧ i ≤ m1.size) _ ?_ ?_ _ _ ⟨rfl, rfl, 0, by simp, Nat.zero_le _⟩
 · rintro x rest q s' ⟨rfl, rfl, i, hr, hi⟩
   have lt0 : i < m1.size := by
    rcases Nat.lt_or_ge i m1.size with z | z
    · exact z
    · rw [Nat.sub_eq_zero_of_le z] at hr; simp at hr
   obtain ⟨rfl, ht⟩ : x = i ∧ rest = List.range' (i + 1) (m1.size - (i + 1)) := by
    have e : m1.size - i = (m1.size - (i + 1)) + 1 := by omega
    rw [e, List.range'_succ] at hr
    injection hr with z1 z2
    exact ⟨z1, z2⟩
   refine wpAny_bind (wpAny_dictEntries g1 d1 ?_)
   rw [Array.getElem?_eq_getElem lt0]
   have lt1 : x < ka.length := by omega
   obtain ⟨k, v, kv⟩ : ∃ k v, ka[x] = (k, v) := ⟨_, _, rfl⟩
   have kv' : ka[x]? = some (k, v) := by rw [List.getElem?_eq_getElem lt1, kv]
   obtain ⟨hkey, hval⟩ := z1.get? (i := x) (e := m1[x]) (k := k) (v := v) (by rw [Array.getElem?_toList]; exact Array.getElem?_eq_getElem lt0) kv'
   obtain ⟨k', hk', hh⟩ := q1 m1[x] (Array.getElem_mem lt0)
   have ekk : k' = k := knd.inj _ _ _ hk' hkey
   rw [ekk] at hh
   obtain ⟨y, hy, he⟩ := hits x k v kv'
   show wpAny _ _ (holding [m1[x].key, m1[x].val] _ >>= _) _ _ _
   rw [hh]
   refine wpAny_bind (wpAny_holding (wpAny_bind (wpAny_dictFind_of hkey g2 d2 q2 ?_)))
   cases hj : m2.findIdx? fun e => knd.is k e.key with
   | none =>
    have : valueAt kb k = none := by rw [← look k, findBy_of_findIdx?, hj]
    rw [this] at hy; cases hy
   | some j =>
    obtain ⟨jlt, _, _⟩ := Array.findIdx?_eq_some_iff_getElem.mp hj
    have hv' : valueAt kb k = some m2[j].val := by
     rw [← look k, findBy_of_findIdx?, hj]
     simp [Array.getElem?_eq_getElem jlt]
    refine wpAny_bind (wpAny_dictEntries g2 d2 ?_)
    rw [Array.getElem?_eq_getElem jlt]
    have ey : m2[j].val = y := Option.some.inj (hv'.symm.trans hy)
    rw [← ey, ← hval] at he
    refine wpAny_holding (he _ _ ?_)
    show wpAny _ _ (if (!true) = true then _ else _) _ _ _
    rw [if_neg (by decide)]
    refine wpAny_bind (wpAny_dictEpoch g1 d1 ?_)
    rw [if_neg (by simp)]
    exact wpAny_pure ⟨rfl, rfl, x + 1, ht, lt0⟩
 · rintro q s' ⟨rfl, rfl, i, hr, hi⟩
   exact wpAny_pure h
theorem zeJ {a b : Addr} {ka kb : List (κ × Value)} {Q : Value → Shared → Prop} (ha : (a == sysModules) = false) (hb : (b == sysModules) = false)
 (da : s.heap.DictOf knd a ka) (db : s.heap.DictOf knd b kb) (hu : A.units < cLine) (hlen : ka.length = kb.length) (hits : ∀ (i : Nat) (k : κ) (v : Value), ka[i]? = some (k, v) → ∃ y, valueAt kb k = some y ∧ EqIn P w A.in1 s v y) (h : Q (.bool true) s) :
 wpAny (model P w) A (richCompare .Eq (.ref a) (.ref b)) Q E s := by
 refine wpAny_richCompare_same_room (op := .Eq) da.typeIs db.typeIs PySem.F.slot_dict_eq (wpAny_call_entry PySem.F.slot_dict_eq da.typeIs PySem.F.entry_dict_eq ?_ (PySem.F.args_dict_eq_2 _ _)) hu
 show wpAny _ _ (Builtin.Dict.dictSlotArgs "__eq__" ⟨[.ref a, .ref b], []⟩ >>= _) _ _ s
 unfold Builtin.Dict.dictSlotArgs
 refine wpAny_bind (wpAny_bind (wpAny_notOrdered_dict da.typeIs ?_))
 show wpAny _ _ (pure (Value.ref a, Value.ref b)) _ _ s
 refine wpAny_pure (wpAny_bind (wpAny_isInstance (T := "dict") db.typeIs PySem.F.sub_dict_dict ?_))
 simp only [Bool.not_true, Bool.false_eq_true, if_false]
 refine wpAny_bind (wpAny_pure (wpAny_bind (wpAny_pure (wpAny_bind (zg4 ha hb da db hlen hits ?_)))))
 exact wpAny_pure ⟨_, rfl, (fun x => nomatch x), by simpa using h⟩
end
end L2
namespace L2
open PySem PySem.Spec PyProof.Rows
inductive DY where
 | non
 | bl (b : Bool)
 | int (i : Int)
 | str (x : Str)
 | lst (ds : List DY)
 | tup (ds : List DY)
 | dic
 | da (d : DY)
mutual
def RepY (H : Hp) : DY → V → Prop
 | .non, v => v = .non
 | .bl b, v => v = .bl b
 | .int i, v => v = .int i
 | .str x, v => v = .str x ∧ x.length ≤ 900
 | .lst ds, v => ∃ a xs, v = .ref a ∧ H a = some (.lst xs) ∧ ds.length ≤ 900 ∧ RepYs H ds xs
 | .tup ds, v => ∃ a xs, v = .ref a ∧ H a = some (.tup xs) ∧ ds.length ≤ 900 ∧ RepYs H ds xs
 | .dic, v => ∃ a, v = .ref a ∧ H a = some (.dK [])
 | .da d, v => ∃ a u, v = .ref a ∧ H a = some (.dK [(.inr "a", u)]) ∧ RepY H d u
def RepYs (H : Hp) : List DY → List V → Prop
 | [], xs => xs = []
 | d :: ds, xs => ∃ x r, xs = x :: r ∧ RepY H d x ∧ RepYs H ds r
end
mutual
theorem RepY.same {H H' : Hp} (s : Same H H') : ∀ (d : DY) {v : V}, RepY H d v → RepY H' d v
 | .non, v, h => by rw [RepY] at *; exact h
 | .bl b, v, h => by rw [RepY] at *; exact h
 | .int i, v, h => by rw [RepY] at *; exact h
 | .str x, v, h => by rw [RepY] at *; exact h
 | .lst ds, v, h => by rw [RepY] at *; obtain ⟨a, xs, e, h1, h0, h2⟩ := h; exact ⟨a, xs, e, s _ _ h1, h0, RepYs.same s ds h2⟩
 | .tup ds, v, h => by rw [RepY] at *; obtain ⟨a, xs, e, h1, h0, h2⟩ := h; exact ⟨a, xs, e, s _ _ h1, h0, RepYs.same s ds h2⟩
 | .dic, v, h => by rw [RepY] at *; obtain ⟨a, e, h1⟩ := h; exact ⟨a, e, s _ _ h1⟩
 | .da d, v, h => by rw [RepY] at *; obtain ⟨a, u, e, h1, h2⟩ := h; exact ⟨a, u, e, s _ _ h1, RepY.same s d h2⟩
theorem RepYs.same {H H' : Hp} (s : Same H H') : ∀ (ds : List DY) {xs : List V}, RepYs H ds xs → RepYs H' ds xs
 | [], xs, h => by rw [RepYs] at *; exact h
 | d :: ds, xs, h => by rw [RepYs] at *; obtain ⟨x, r, e, h1, h2⟩ := h; exact ⟨x, r, e, RepY.same s d h1, RepYs.same s ds h2⟩
end
theorem RepYs.length {H : Hp} : ∀ {ds : List DY} {xs : List V}, RepYs H ds xs → xs.length = ds.length
 | [], xs, h => by rw [RepYs] at h; rw [h]; rfl
 | d :: ds, xs, h => by
  rw [RepYs] at h
  obtain ⟨x, r, rfl, _, h⟩ := h
  rw [List.length_cons, List.length_cons, RepYs.length h]
theorem RepYs.get {H : Hp} : ∀ {ds : List DY} {xs : List V} {i : Nat} {x : V}, RepYs H ds xs → xs[i]? = some x → ∃ d, ds[i]? = some d ∧ RepY H d x
 | [], xs, i, x, h, e => by rw [RepYs] at h; subst h; simp at e
 | d :: ds, xs, 0, x, h, e => by
  rw [RepYs] at h
  obtain ⟨y, r, rfl, h1, h2⟩ := h
  simp at e
  subst e
  exact ⟨d, rfl, h1⟩
 | d :: ds, xs, i + 1, x, h, e => by
  rw [RepYs] at h
  obtain ⟨y, r, rfl, h1, h2⟩ := h
  simp at e
  obtain ⟨d', e1, e2⟩ := RepYs.get h2 e
  exact ⟨d', by simpa using e1, e2⟩
mutual
def zaH : DY → Nat
 | .lst ds => za2 ds + 1
 | .tup ds => za2 ds + 1
 | .da d => zaH d + 1
 | _ => 0
def za2 : List DY → Nat
 | [] => 0
 | d :: ds => max (zaH d) (za2 ds)
end
section
variable {X : Cx} {pins : List (Addr × Obj)} {σ : St} {H : Hp} {s : Shared}
theorem zc9 {P : Program} {w : World} {A : Around} {l b : Addr} (h : ∀ (E : Value → Shared → Prop) (Q : Value → Shared → Prop), Q (.bool true) s → wpAny (model P w) A (richCompare .Eq (.ref l) (.ref b)) Q E s) : EqIn P w A s (.ref l) (.ref b) := fun E Q hq => by
 by_cases e : l = b
 · subst e
   exact SeqAt.EqAt.same (.ref l) P w E Q hq
 · unfold eqBool
   refine wpAny_holding ?_
   refine wpAny_ite_split (fun hab => absurd (by have := eq_of_beq hab; injection this) e) (fun _ => ?_)
   exact wpAny_bind (h E _ (wpAny_truthy_bool hq))
mutual
theorem ze1 (I : Inv X pins σ H s) : ∀ (A : Around) (d : DY) (v v' : V) (u u' : Value), RepY H d v → RepY H d v' → RelV v u → RelV v' u' → A.units + zaH d < cLine → EqIn X.prog X.w A s u u'
 | A, .non, v, v', u, u', h, h', r, r', z => by
  rw [RepY] at h h'
  subst h h'
  exact EqIn.of (zda I A .non .non _ _ _ _ (by rw [Rep]) (by rw [Rep]) r r' (show A.units + 0 < cLine by omega))
 | A, .bl b, v, v', u, u', h, h', r, r', z => by
  rw [RepY] at h h'
  subst h h'
  have := zda I A (.bl b) (.bl b) _ _ _ _ (by rw [Rep]) (by rw [Rep]) r r' (show A.units + 0 < cLine by omega)
  rw [za7] at this
  exact EqIn.of this
 | A, .int b, v, v', u, u', h, h', r, r', z => by
  rw [RepY] at h h'
  subst h h'
  have := zda I A (.int b) (.int b) _ _ _ _ (by rw [Rep]) (by rw [Rep]) r r' (show A.units + 0 < cLine by omega)
  rw [za7] at this
  exact EqIn.of this
 | A, .str b, v, v', u, u', h, h', r, r', z => by
  rw [RepY] at h h'
  obtain ⟨rfl, _⟩ := h
  obtain ⟨rfl, _⟩ := h'
  have := zda I A (.str b) (.str b) _ _ _ _ (by rw [Rep]) (by rw [Rep]) r r' (show A.units + 0 < cLine by omega)
  rw [za7] at this
  exact EqIn.of this
 | A, .lst ds, v, v', u, u', h, h', r, r', z => by
  rw [RepY] at h h'
  obtain ⟨a, xs, rfl, h1, _, h2⟩ := h
  obtain ⟨a', xs', rfl, h1', _, h2'⟩ := h'
  cases (show u = Value.ref a from r)
  cases (show u' = Value.ref a' from r')
  obtain ⟨_, its, n, rv, hg⟩ := (show ObjOk X.prog X.w H s.heap a (.lst xs) from I.hok a _ h1)
  obtain ⟨_, its', n', rv', hg'⟩ := (show ObjOk X.prog X.w H s.heap a' (.lst xs') from I.hok a' _ h1')
  have l1 := h2.length
  have l2 := h2'.length
  have l3 := rv.length
  have l4 := rv'.length
  rw [zaH] at z
  refine zc9 fun E Q q => zgv ⟨_, hg, rfl, _, rfl⟩ ⟨_, hg', rfl, _, rfl⟩ (by simp only [List.size_toArray]; omega) (by omega) (fun j k1 k2 => ?_) q
  have := zco I A.in1 ds xs xs' its its' h2 h2' rv rv' (by rw [Around.in1_units]; omega) j (by simpa using k1) (by simpa using k2)
  simpa using this
 | A, .tup ds, v, v', u, u', h, h', r, r', z => by
  rw [RepY] at h h'
  obtain ⟨a, xs, rfl, h1, _, h2⟩ := h
  obtain ⟨a', xs', rfl, h1', _, h2'⟩ := h'
  cases (show u = Value.ref a from r)
  cases (show u' = Value.ref a' from r')
  obtain ⟨_, its, rv, o, hg, hc, _, n, hd⟩ := (show ObjOk X.prog X.w H s.heap a (.tup xs) from I.hok a _ h1)
  obtain ⟨_, its', rv', o', hg', hc', _, n', hd'⟩ := (show ObjOk X.prog X.w H s.heap a' (.tup xs') from I.hok a' _ h1')
  have l1 := h2.length
  have l2 := h2'.length
  have l3 := rv.length
  have l4 := rv'.length
  rw [zaH] at z
  refine zc9 fun E Q q => zhf ⟨_, hg, hc, _, hd⟩ ⟨_, hg', hc', _, hd'⟩ (by simp only [List.size_toArray]; omega) (by omega) (fun j k1 k2 => ?_) q
  have := zco I A.in1 ds xs xs' its its' h2 h2' rv rv' (by rw [Around.in1_units]; omega) j (by simpa using k1) (by simpa using k2)
  simpa using this
 | A, .dic, v, v', u, u', h, h', r, r', z => by
  rw [RepY] at h h'
  obtain ⟨a, rfl, h1⟩ := h
  obtain ⟨a', rfl, h1'⟩ := h'
  cases (show u = Value.ref a from r)
  cases (show u' = Value.ref a' from r')
  obtain ⟨_, hS, vs, rk, dd⟩ := zd5 I.hok h1
  obtain ⟨_, hS', vs', rk', dd'⟩ := zd5 I.hok h1'
  cases rk
  cases rk'
  exact zc9 fun E Q q => zeJ hS hS' dd dd' (by omega) rfl (fun i k v e => by simp at e) q
 | A, .da d, v, v', u, u', h, h', r, r', z => by
  rw [RepY] at h h'
  obtain ⟨a, y, rfl, h1, h2⟩ := h
  obtain ⟨a', y', rfl, h1', h2'⟩ := h'
  cases (show u = Value.ref a from r)
  cases (show u' = Value.ref a' from r')
  obtain ⟨_, hS, vs, rk, dd⟩ := zd5 I.hok h1
  obtain ⟨_, hS', vs', rk', dd'⟩ := zd5 I.hok h1'
  rw [zaH] at z
  have l1 : 1 = vs.length := KV.length rk
  have l2 : 1 = vs'.length := KV.length rk'
  refine zc9 fun E Q q => zeJ hS hS' dd dd' (by omega) (by omega) (fun i k w e => ?_) q
  cases rk with
  | cons p1 p2 =>
   cases p2
   cases rk' with
   | cons p1' p2' =>
    cases p2'
    rename_i kw kw'
    obtain ⟨k0, w0⟩ := kw
    obtain ⟨k0', w0'⟩ := kw'
    obtain ⟨e1, r1⟩ := p1
    obtain ⟨e1', r1'⟩ := p1'
    dsimp only at e1 e1' r1 r1'
    subst e1 e1'
    cases i with
    | succ i => simp at e
    | zero =>
     simp at e
     obtain ⟨rfl, rfl⟩ := e
     refine ⟨w0', by simp [valueAt], ze1 I A.in1 d y y' w0 w0' h2 h2' r1 r1' (by rw [Around.in1_units]; omega)⟩
theorem zco (I : Inv X pins σ H s) : ∀ (A : Around) (ds : List DY) (vs ws : List V) (us ys : List Value), RepYs H ds vs → RepYs H ds ws → Vals vs us → Vals ws ys → A.units + za2 ds < cLine →
 ∀ (j : Nat) (h1 : j < us.length) (h2 : j < ys.length), EqIn X.prog X.w A s us[j] ys[j]
 | A, [], vs, ws, us, ys, h, h', r, r', z => by
  rw [RepYs] at h
  subst h
  cases r
  intro j h1
  simp at h1
 | A, d :: ds, vs, ws, us, ys, h, h', r, r', z => by
  rw [RepYs] at h h'
  obtain ⟨x, q, rfl, g1, g2⟩ := h
  obtain ⟨x', q', rfl, g1', g2'⟩ := h'
  rw [za2] at z
  cases r with
  | cons r1 r2 =>
   cases r' with
   | cons r1' r2' =>
    intro j h1 h2
    cases j with
    | zero => exact ze1 I A d x x' _ _ g1 g1' r1 r1' (by omega)
    | succ j => exact zco I A ds q q' _ _ g2 g2' r2 r2' (by omega) j (by simpa using h1) (by simpa using h2)
end
end
section
variable {X : Cx} {pins : List (Addr × Obj)} {σ : St} {H : Hp} {s : Shared}
theorem zjG (I : Inv X pins σ H s) (A : Around) (d : DY) (v v' : V) (u u' : Value) (h : RepY H d v) (h' : RepY H d v') (r : RelV v u) (r' : RelV v' u') (z : A.units + zaH d < cLine) {E : Value → Shared → Prop} {Q : Value → Shared → Prop} (q : Q (.bool true) s) :
 wpAny (model X.prog X.w) A (richCompare .Eq u u') Q E s := by
 cases d with
 | non =>
  rw [RepY] at h h'
  subst h h'
  exact zdD I A .non .non _ _ _ _ (by rw [Rep]) (by rw [Rep]) r r' (show A.units + 0 < cLine by omega) X.prog X.w _ _ q
 | bl b =>
  rw [RepY] at h h'
  subst h h'
  have := zdD I A (.bl b) (.bl b) _ _ _ _ (by rw [Rep]) (by rw [Rep]) r r' (show A.units + 0 < cLine by omega)
  rw [za7] at this
  exact this X.prog X.w _ _ q
 | int b =>
  rw [RepY] at h h'
  subst h h'
  have := zdD I A (.int b) (.int b) _ _ _ _ (by rw [Rep]) (by rw [Rep]) r r' (show A.units + 0 < cLine by omega)
  rw [za7] at this
  exact this X.prog X.w _ _ q
 | str b =>
  rw [RepY] at h h'
  obtain ⟨rfl, _⟩ := h
  obtain ⟨rfl, _⟩ := h'
  have := zdD I A (.str b) (.str b) _ _ _ _ (by rw [Rep]) (by rw [Rep]) r r' (show A.units + 0 < cLine by omega)
  rw [za7] at this
  exact this X.prog X.w _ _ q
 | lst ds =>
  rw [RepY] at h h'
  obtain ⟨a, xs, rfl, h1, _, h2⟩ := h
  obtain ⟨a', xs', rfl, h1', _, h2'⟩ := h'
  cases (show u = Value.ref a from r)
  cases (show u' = Value.ref a' from r')
  obtain ⟨_, its, n, rv, hg⟩ := (show ObjOk X.prog X.w H s.heap a (.lst xs) from I.hok a _ h1)
  obtain ⟨_, its', n', rv', hg'⟩ := (show ObjOk X.prog X.w H s.heap a' (.lst xs') from I.hok a' _ h1')
  have l1 := h2.length
  have l2 := h2'.length
  have l3 := rv.length
  have l4 := rv'.length
  rw [zaH] at z
  refine zgv ⟨_, hg, rfl, _, rfl⟩ ⟨_, hg', rfl, _, rfl⟩ (by simp only [List.size_toArray]; omega) (by omega) (fun j k1 k2 => ?_) q
  have := zco I A.in1 ds xs xs' its its' h2 h2' rv rv' (by rw [Around.in1_units]; omega) j (by simpa using k1) (by simpa using k2)
  simpa using this
 | tup ds =>
  rw [RepY] at h h'
  obtain ⟨a, xs, rfl, h1, _, h2⟩ := h
  obtain ⟨a', xs', rfl, h1', _, h2'⟩ := h'
  cases (show u = Value.ref a from r)
  cases (show u' = Value.ref a' from r')
  obtain ⟨_, its, rv, o, hg, hc, _, n, hd⟩ := (show ObjOk X.prog X.w H s.heap a (.tup xs) from I.hok a _ h1)
  obtain ⟨_, its', rv', o', hg', hc', _, n', hd'⟩ := (show ObjOk X.prog X.w H s.heap a' (.tup xs') from I.hok a' _ h1')
  have l1 := h2.length
  have l2 := h2'.length
  have l3 := rv.length
  have l4 := rv'.length
  rw [zaH] at z
  refine zhf ⟨_, hg, hc, _, hd⟩ ⟨_, hg', hc', _, hd'⟩ (by simp only [List.size_toArray]; omega) (by omega) (fun j k1 k2 => ?_) q
  have := zco I A.in1 ds xs xs' its its' h2 h2' rv rv' (by rw [Around.in1_units]; omega) j (by simpa using k1) (by simpa using k2)
  simpa using this
 | dic =>
  rw [RepY] at h h'
  obtain ⟨a, rfl, h1⟩ := h
  obtain ⟨a', rfl, h1'⟩ := h'
  cases (show u = Value.ref a from r)
  cases (show u' = Value.ref a' from r')
  obtain ⟨_, hS, vs, rk, dd⟩ := zd5 I.hok h1
  obtain ⟨_, hS', vs', rk', dd'⟩ := zd5 I.hok h1'
  cases rk
  cases rk'
  exact zeJ hS hS' dd dd' (by omega) rfl (fun i k v e => by simp at e) q
 | da d =>
  rw [RepY] at h h'
  obtain ⟨a, y, rfl, h1, h2⟩ := h
  obtain ⟨a', y', rfl, h1', h2'⟩ := h'
  cases (show u = Value.ref a from r)
  cases (show u' = Value.ref a' from r')
  obtain ⟨_, hS, vs, rk, dd⟩ := zd5 I.hok h1
  obtain ⟨_, hS', vs', rk', dd'⟩ := zd5 I.hok h1'
  rw [zaH] at z
  have l1 : 1 = vs.length := KV.length rk
  have l2 : 1 = vs'.length := KV.length rk'
  refine zeJ hS hS' dd dd' (by omega) (by omega) (fun i k w e => ?_) q
  cases rk with
  | cons p1 p2 =>
   cases p2
   cases rk' with
   | cons p1' p2' =>
    cases p2'
    rename_i kw kw'
    obtain ⟨k0, w0⟩ := kw
    obtain ⟨k0', w0'⟩ := kw'
    obtain ⟨e1, r1⟩ := p1
    obtain ⟨e1', r1'⟩ := p1'
    dsimp only at e1 e1' r1 r1'
    subst e1 e1'
    cases i with
    | succ i => simp at e
    | zero =>
     simp at e
     obtain ⟨rfl, rfl⟩ := e
     refine ⟨w0', by simp [valueAt], ze1 I A.in1 d y y' w0 w0' h2 h2' r1 r1' (by rw [Around.in1_units]; omega)⟩
end
section
variable {X : Cx}
def rEqY : R2 := fun x y H Q => ∃ d, RepY H d x ∧ RepY H d y ∧ zaH d < 60 ∧ Q (.bl true) H
theorem zlu (hr : zga X) : OpR X (compareOp .Eq) rEqY := by
 intro pins s σ H x y v u Q I rx ry h
 obtain ⟨d, h1, h2, h3, q⟩ := h
 unfold zga at hr
 exact zjG I X.A d x y v u h1 h2 rx ry (by omega) ⟨.bl true, H, I, rfl, q⟩
theorem zdx : zcQ X (.builtin "isinstance") (fun xs H Q => ∃ x t tp cs b, xs = [x, .ref tp] ∧ TyOf X.K H x (.type t) ∧ H tp = some (.tup cs) ∧ cs.all zi1 = true ∧ PySem.W.kitAny X.K (.type t) (cs.map clsV) = some b ∧ Q (.bl b) H) := by
 intro pins s σ H xs us Q I r h
 obtain ⟨x, t, tp, cs, b, rfl, ty, ht, hc, e, q⟩ := h
 obtain ⟨u, w', rfl, ru, rw'⟩ := zhw r
 cases (show w' = Value.ref tp from rw')
 obtain ⟨_, its, rv, o, h1, h2, h3, n, h4⟩ := (show ObjOk X.prog X.w H s.heap tp (.tup cs) from I.hok tp _ ht)
 obtain ⟨oc, od, oda, osl⟩ := o
 dsimp only at h2 h3 h4
 subst h2 h3 h4
 have hi : its = cs.map clsV := zfY hc rv
 subst hi
 have fin : ∀ tk, EP X pins σ Q (.bool b) { s with toks := tk } := fun tk => ⟨.bl b, H, I.tok tk, rfl, q⟩
 generalize ht' : (Value.type t) = T at ty e
 cases ty with
 | non => cases (show u = Value.none from ru); exact PySem.W.kia_tup PySem.W.kitx_none I.kIn True.intro h1 e (fun z => nomatch z) fin
 | bl y => cases (show u = Value.bool y from ru); exact PySem.W.kia_tup PySem.W.kitx_bool I.kIn True.intro h1 e (fun z => nomatch z) fin
 | int i => obtain ⟨t, q⟩ := (show ∃ t, u = Value.int i t from ru); cases q; exact PySem.W.kia_tup PySem.W.kitx_int I.kIn True.intro h1 e (fun z => nomatch z) fin
 | str y => obtain ⟨t, q⟩ := (show ∃ t, u = Value.str y t from ru); cases q; exact PySem.W.kia_tup PySem.W.kitx_str I.kIn True.intro h1 e (fun z => nomatch z) fin
 | flt y => obtain ⟨t, q⟩ := (show ∃ t, u = Value.float y t from ru); cases q; exact PySem.W.kia_tup PySem.W.kitx_float I.kIn True.intro h1 e (fun z => nomatch z) fin
 | @lst a xs ea =>
  cases (show u = Value.ref a from ru)
  obtain ⟨_, _, n, _, g1⟩ := (show ObjOk X.prog X.w H s.heap a (.lst xs) from I.hok a _ ea)
  exact PySem.W.kia_tup PySem.W.kitx_list I.kIn ⟨_, g1, rfl⟩ h1 e (fun z => nomatch z) fin
 | @tup a xs ea =>
  cases (show u = Value.ref a from ru)
  obtain ⟨_, _, _, o, g1, g2, _⟩ := (show ObjOk X.prog X.w H s.heap a (.tup xs) from I.hok a _ ea)
  exact PySem.W.kia_tup PySem.W.kitx_tuple I.kIn ⟨o, g1, g2⟩ h1 e (fun z => nomatch z) fin
 | @dK a kvs ea =>
  cases (show u = Value.ref a from ru)
  obtain ⟨_, _, vs, _, p⟩ := (show ObjOk X.prog X.w H s.heap a (.dK kvs) from I.hok a _ ea)
  obtain ⟨o, es, ep, g1, g2, _⟩ := p
  exact PySem.W.kia_tup PySem.W.kitx_dict I.kIn ⟨o, g1, g2.1⟩ h1 e (fun z => nomatch z) fin
 | @frz a ob xs ea =>
  cases (show u = Value.ref a from ru)
  obtain ⟨_, _, _, n, _, g1⟩ := (show ObjOk X.prog X.w H s.heap a (.frz ob (.lst xs)) from I.hok a _ ea)
  exact PySem.W.kia_tup PySem.W.kitx_list I.kIn ⟨_, g1, rfl⟩ h1 e (fun z => nomatch z) fin
 | @dT a kvs ea =>
  cases (show u = Value.ref a from ru)
  obtain ⟨_, _, xs, _, o, es, ep, g1, g2, _⟩ := (show ObjOk X.prog X.w H s.heap a (.dT kvs) from I.hok a _ ea)
  exact PySem.W.kia_tup PySem.W.kitx_dict I.kIn ⟨o, g1, g2.1⟩ h1 e (fun z => nomatch z) fin
 | ins => cases ht'
end
section
variable {X : Cx}
end
def hid (b g : Addr) (H : Hp) : Hp := fun a => if a = b ∨ a = g then none else H a
def zhc (D : Nat) (sp : Nat → Sp) : Sp := fun vs H Q E => ∃ n, n ≤ D ∧ sp n vs H Q E
section
variable {P : Program} {w : World} {K : PySem.W.Frag} {mg : Str → Option Value} {base : Heap}
def zl0 : Sp := fun _ _ _ _ => False
theorem zkg {x : Str} {st : Stmt} {f : Addr} {fd : FuncData} {N ps : List Str} (F : Fun K x x st f fd) (S : FnScope N ps (zag st)) (b : Binds K fd ps []) (M : mg x = some (.ref f)) (L : Nat) (sp : Nat → Sp)
 (step : ∀ n sp0, (∀ m, n = m + 1 → sp0 = sp m) → FnH P w K mg base (L + 1 + n) x ps sp0 → FnOk P w K mg base CX0 (L + 1 + n + 1) f fd ps (sp n)) : ∀ n, FnOk P w K mg base CX0 (L + 1 + n + 1) f fd ps (sp n)
 | 0 => step 0 zl0 (fun m z => by cases z) ⟨f, fd, F.ok (k := L) S (fun _ _ _ _ h => h.elim) (fun _ _ _ _ _ _ _ _ _ h => h.elim), b, F.kp, M⟩
 | n + 1 => step (n + 1) (sp n) (fun m z => by cases z; rfl) ⟨f, fd, zkg F S b M L sp step n, b, F.kp, M⟩
theorem zkz {f : Addr} {fd : FuncData} {ps : List Str} {L D : Nat} {sp : Nat → Sp} (h : ∀ n, FnOk P w K mg base CX0 (L + 1 + n + 1) f fd ps (sp n)) : FnOk P w K mg base CX0 (L + D + 2) f fd ps (zhc D sp) :=
 ⟨fun vs H Q E ⟨n, _, q⟩ => (h n).len vs H Q E q, fun A outer s H args us vs Q E hr he hb hv ⟨n, hn, q⟩ => (h n).run A outer s H args us vs Q E (hr.mono (by omega)) he hb hv q⟩
end
section
variable {X : Cx}
def rIx2 (K : PySem.W.Frag) : R2 := fun x y H Q => ∃ p xs i v, x = .ref p ∧ y = .int i ∧ (SqL K H p xs ∨ SqT K H p xs) ∧ atI xs i = some v ∧ Q v H
theorem zlE : IxR X (rIx2 X.K) := by
 intro value slice pins s σ H x y v u Q I rx ry h hs
 obtain ⟨p, xs, i, z, rfl, rfl, hq, he, q⟩ := h
 rcases hq with hq | hq
 · exact zaI value slice pins s σ H _ _ v u Q I rx ry ⟨p, xs, i, z, rfl, rfl, hq, he, q⟩ hs
 · exact za9 value slice pins s σ H _ _ v u Q I rx ry ⟨p, xs, i, z, rfl, rfl, hq, he, q⟩ hs
theorem ziX (K : PySem.W.Frag) (h : X.K = K) : IxR X (rIx2 K) := by subst h; exact zlE
end
def eD : Option Int → DY
 | none => .non
 | some i => .int i
theorem zit (H : Hp) (o : Option Int) : RepY H (eD o) (eV o) := by
 cases o with
 | none => show RepY H .non .non; rw [RepY]
 | some i => show RepY H (.int i) (.int i); rw [RepY]
theorem zj8 (o : Option Int) : zaH (eD o) = 0 := by
 cases o <;> rfl
theorem RepYs.nil {H : Hp} : RepYs H [] [] := by rw [RepYs]
theorem RepYs.cons {H : Hp} {d : DY} {ds : List DY} {x : V} {xs : List V} (h : RepY H d x) (hs : RepYs H ds xs) : RepYs H (d :: ds) (x :: xs) := by rw [RepYs]; exact ⟨x, xs, rfl, h, hs⟩
theorem zkL {H : Hp} {a : Addr} {ds : List DY} {xs : List V} (h : H a = some (.lst xs)) (hs : RepYs H ds xs) (hl : xs.length ≤ 900) : RepY H (.lst ds) (.ref a) := by
 rw [RepY]
 exact ⟨a, xs, rfl, h, by rw [← hs.length]; exact hl, hs⟩
theorem zeI {H : Hp} {a : Addr} {ds : List DY} {xs : List V} (h : H a = some (.tup xs)) (hs : RepYs H ds xs) (hl : xs.length ≤ 900) : RepY H (.tup ds) (.ref a) := by
 rw [RepY]
 exact ⟨a, xs, rfl, h, by rw [← hs.length]; exact hl, hs⟩
theorem zcE : ∀ {ds : List DY} {m : Nat}, (∀ d ∈ ds, zaH d ≤ m) → za2 ds ≤ m
 | [], m, _ => by rw [za2]; exact Nat.zero_le _
 | d :: ds, m, h => by
  rw [za2]
  have h1 := h d (List.mem_cons_self ..)
  have h2 := zcE fun e he => h e (List.mem_cons_of_mem _ he)
  omega
theorem zdp : ∀ {ds : List DY} {d : DY}, d ∈ ds → zaH d ≤ za2 ds
 | [], d, h => nomatch h
 | e :: ds, d, h => by
  rw [za2]
  rcases List.mem_cons.mp h with rfl | h
  · omega
  · have := zdp h
    omega
theorem zkr {a b : Option Int} (h : eV a = eV b) : a = b := by
 cases a <;> cases b <;> simp [eV] at h ⊢
 exact h
theorem zbE {t u : TS} {D : Ends} {σ : St} {H : Hp} (M : St → Hp → Prop) (h1 : ∀ Z : St → Hp → Prop, (∀ σ' H', M σ' H' → Z σ' H') → t { D with nx := Z } σ H) (h2 : ∀ σ' H', M σ' H' → u D σ' H') : tSeq t u D σ H := h1 (u D) h2
theorem zby {i : Nat} {v : V} {σ : St} {H : Hp} {Q : St → Hp → Prop} (h : Q (σ.set i (some v)) H) : zcO i v σ H Q := h
theorem WishAt.tyN {H : Hp} {a : Addr} {w : List WP} (h : WishAt H a w) : ∃ xs, H a = some (.tup xs) ∧ xs.length = w.length := by
 obtain ⟨ps, rfl, e, _⟩ := h
 exact ⟨_, e, by simp⟩
structure WsAt (H : Hp) (l : Addr) (ws : List (Addr × List WP)) : Prop where
 at' : H l = some (.lst (ws.map fun x => V.ref x.1))
 ok : ∀ x ∈ ws, WishAt H x.1 x.2 ∧ WOk x.2
 len : ws.length ≤ 800
theorem WsAt.same {H H' : Hp} {l : Addr} {ws : List (Addr × List WP)} (h : WsAt H l ws) (s : Same H H') : WsAt H' l ws := ⟨s _ _ h.at', fun x hx => ⟨(h.ok x hx).1.same s, (h.ok x hx).2⟩, h.len⟩
def zgm : Sp := fun vs H Q _ => ∃ (l : Addr) (ws : List (Addr × List WP)), vs = [.ref l] ∧ WsAt H l ws ∧ ∀ H', Same H H' → Q (.bl true) H'
def zey : Sp := fun vs H Q _ => ∃ (l : Addr) (ws : List (Addr × List WP)), vs = [.ref l] ∧ WsAt H l ws ∧ ∀ H', Same H H' → Q .non H'
def dyWP (p : WP) : DY := .tup [.str p.1, eD p.2.1, eD p.2.2]
def dyW (w : List WP) : DY := .tup (w.map dyWP)
theorem zei {H : Hp} : ∀ ps : List (Addr × WP), (∀ p ∈ ps, H p.1 = some (.tup [.str p.2.1, eV p.2.2.1, eV p.2.2.2])) → (∀ p ∈ ps, p.2.1.length ≤ 8) → RepYs H ((ps.map (·.2)).map dyWP) (ps.map fun p => V.ref p.1)
 | [], _, _ => RepYs.nil
 | p :: ps, h, hl => by
  refine RepYs.cons ?_ (zei ps (fun x hx => h x (List.mem_cons_of_mem _ hx)) fun x hx => hl x (List.mem_cons_of_mem _ hx))
  refine zeI (h p List.mem_cons_self) (RepYs.cons ?_ (RepYs.cons (zit H _) (RepYs.cons (zit H _) RepYs.nil))) (by simp)
  rw [RepY]
  exact ⟨rfl, Nat.le_trans (hl p List.mem_cons_self) (by decide)⟩
theorem zis {H : Hp} {a : Addr} {w : List WP} (h : WishAt H a w) (ok : WOk w) : RepY H (dyW w) (.ref a) := by
 obtain ⟨ps, rfl, e, f⟩ := h
 refine zeI e (zei ps f fun p hp => ?_) (by have := ok.len; rw [List.length_map] at *; omega)
 exact (ok.ok p.2 (List.mem_map_of_mem hp)).1.eight
theorem zds {H : Hp} : ∀ ws : List (Addr × List WP), (∀ x ∈ ws, WishAt H x.1 x.2 ∧ WOk x.2) → RepYs H ((ws.map (·.2)).map dyW) (ws.map fun p => V.ref p.1)
 | [], _ => RepYs.nil
 | x :: ws, h => RepYs.cons (zis (h x List.mem_cons_self).1 (h x List.mem_cons_self).2) (zds ws fun y hy => h y (List.mem_cons_of_mem _ hy))
theorem WsAt.repY {H : Hp} {l : Addr} {ws : List (Addr × List WP)} (h : WsAt H l ws) : RepY H (.lst ((ws.map (·.2)).map dyW)) (.ref l) :=
 zkL h.at' (zds ws h.ok) (by have := h.len; rw [List.length_map]; omega)
theorem zjf (w : List WP) : zaH (dyW w) ≤ 2 := by
 unfold dyW
 rw [zaH]
 have : za2 (w.map dyWP) ≤ 1 := zcE fun d hd => by
  obtain ⟨p, _, rfl⟩ := List.mem_map.mp hd
  unfold dyWP
  simp only [zaH, za2, zj8]
  omega
 omega
theorem zh5 (ws : List (List WP)) : zaH (.lst (ws.map dyW)) ≤ 3 := by
 rw [zaH]
 have : za2 (ws.map dyW) ≤ 2 := zcE fun d hd => by
  obtain ⟨p, _, rfl⟩ := List.mem_map.mp hd
  exact zjf p
 omega
open PySem.AutoSeq1 (wpAny_loadPart')
open PySem.MeetsSeq PySem.MeetsSeq2 PySem.MeetsSeq3 PySem.SeqRoads2 PySem.Calls
section
variable {P : Program} {w : World}
theorem zgK (l b : Addr) (items items2 : Array Value) (n n2 : Nat) (dd dd2 : Option Addr) (sl sl2 : Array (Option Value)) (hsz : items.size = items2.size) (k : Nat) :
 ∀ i : Nat, items.size - i = k → ∀ (A : Around) (R : Result → Shared → Prop) (s : Shared), s.heap.get? l = some { cls := .type "list", dict := dd, data := .seq items n, slots := sl } → s.heap.get? b = some { cls := .type "list", dict := dd2, data := .seq items2 n2, slots := sl2 } →
  (∀ j (h1 : j < items.size) (h2 : j < items2.size), EqIn P w A.in1 s items[j] items2[j]) → R (.ok (.ret (.bool false))) s →
  wpAny (model P w) A.in1 (Builtin.«list.__eq__.loop» ⟨[.ref l, .ref b, rawInt i, rawInt 3], []⟩) (fun fin s' => match fin with | .done f => R (.ok f) s' | .again c' => c'.quiet = true ∧ codeAny (model P w) A c' R s') (fun e s' => R (.error e) s') s := by
 induction k with
 | zero =>
  intro i hk A R s hl hb he h
  obtain ⟨hp, g, d, tk, os⟩ := s
  wp_walk using wpAny_loadPart' hl, wpAny_loadPart' hb
  have o1 : items[((i : Nat) : Int).toNat]? = none := by simp; omega
  have o2 : items2[((i : Nat) : Int).toNat]? = none := by simp; omega
  rw [o1, o2]
  wp_walk using wpAny_loadPart' hl, wpAny_loadPart' hb
  show R (.ok (.ret (.bool (items.size != items2.size)))) _
  rw [hsz]
  simpa using h
 | succ k ih =>
  intro i hk A R s hl hb he h
  obtain ⟨hp, g, d, tk, os⟩ := s
  wp_walk using wpAny_loadPart' hl, wpAny_loadPart' hb
  have lt1 : i < items.size := by omega
  have lt2 : i < items2.size := by omega
  have o1 : items[((i : Nat) : Int).toNat]? = some items[i] := by simp [lt1]
  have o2 : items2[((i : Nat) : Int).toNat]? = some items2[i] := by simp [lt2]
  have hc : ((i : Int) + 1) = ((i + 1 : Nat) : Int) := by push_cast; rfl
  rw [o1, o2]
  refine wpAny_bind (he i lt1 lt2 _ _ ?_)
  wp_walk
  rw [hc]
  exact ⟨plainId_quiet plain_eq_loop _, codeAny_builtin entry_eq_loop (by
   rw [Around.under_plainId plain_eq_loop _]
   exact ih (i + 1) (by omega) A R _ hl hb he h)⟩
theorem zlx (l b : Addr) (items items2 : Array Value) (n n2 : Nat) (dd dd2 : Option Addr) (sl sl2 : Array (Option Value)) (hsz : items.size = items2.size) (A : Around) (R : Result → Shared → Prop) (s : Shared)
 (hl : s.heap.get? l = some { cls := .type "list", dict := dd, data := .seq items n, slots := sl }) (hb : s.heap.get? b = some { cls := .type "list", dict := dd2, data := .seq items2 n2, slots := sl2 })
 (he : ∀ j (h1 : j < items.size) (h2 : j < items2.size), EqIn P w A.in1 s items[j] items2[j]) (h : R (.ok (.ret (.bool false))) s) :
 wpAny (model P w) A.in1 (Builtin.«list.__ne__» ⟨[.ref l, .ref b], []⟩) (fun fin s' => match fin with | .done f => R (.ok f) s' | .again c' => c'.quiet = true ∧ codeAny (model P w) A c' R s') (fun e s' => R (.error e) s') s := by
 obtain ⟨hp, g, d, tk, os⟩ := s
 have f3 := AutoSeq1.sub_list_list
 have hne : ¬ (items.size != items2.size) = true := by simp [hsz]
 wp_walk using wpAny_loadPart' hl, wpAny_loadPart' hb
 exact ⟨plainId_quiet plain_eq_loop _, codeAny_builtin entry_eq_loop (by
  rw [Around.under_plainId plain_eq_loop _]
  exact zgK l b items items2 n n2 dd dd2 sl sl2 hsz _ 0 rfl A R _ hl hb he h)⟩
theorem zkK {l b : Addr} {items items2 : Array Value} {A : Around} {s : Shared} {E : Value → Shared → Prop} {Q : Value → Shared → Prop} (hl : s.heap.IsList l items) (hb : s.heap.IsList b items2) (hsz : items.size = items2.size) (hu : A.units < cLine)
 (he : ∀ j (h1 : j < items.size) (h2 : j < items2.size), EqIn P w A.in1 s items[j] items2[j]) (h : Q (.bool false) s) : wpAny (model P w) A (richCompare .NotEq (.ref l) (.ref b)) Q E s := by
 obtain ⟨⟨c1, dd, data, sl⟩, ho, hc, n, hd⟩ := id hl
 obtain ⟨⟨c2, dd2, data2, sl2⟩, ho2, hc2, n2, hd2⟩ := id hb
 simp only at hc hd hc2 hd2
 subst hc hd hc2 hd2
 refine wpAny_richCompare_same_room (op := .NotEq) ⟨_, ho, rfl⟩ ⟨_, ho2, rfl⟩ F.slot_list_ne ?_ hu
 refine wpAny_call (codeAny_call_builtin F.slot_list_ne.plain F.entry_list_ne (F.slot_list_ne.check _ _ _ _ _ _ _ _ ⟨_, ho, rfl⟩ (F.args_list_ne_2 _ _) ?_))
 exact zlx l b items items2 n n2 dd dd2 sl sl2 hsz A (wants (fun v s' => v ≠ .notImplemented ∧ Q v s') E) s ho ho2 he (show Value.bool false ≠ Value.notImplemented ∧ Q (.bool false) s from ⟨(fun x => nomatch x), h⟩)
end
section
variable {P : Program} {w : World} {κ : Type} [DecidableEq κ] {knd : KeyKind P w κ} {A : Around} {E : Value → Shared → Prop} {s : Shared}
end
end L2
namespace L2
open PySem PySem.Spec PyProof.Rows
section
variable {X : Cx}
end
section
variable {X : Cx} {pins : List (Addr × Obj)} {σ : St} {H : Hp} {s : Shared}
end
section
variable {X : Cx}
end
section
variable {X : Cx}
def rEqE : R2 := fun x y H Q => ∃ a b xs, x = .ref a ∧ y = .ref b ∧ H a = some (.lst xs) ∧ H b = some (.lst []) ∧ Q (.bl xs.isEmpty) H
def rNeE : R2 := fun x y H Q => ∃ a b xs, x = .ref a ∧ y = .ref b ∧ H a = some (.lst xs) ∧ H b = some (.lst []) ∧ Q (.bl (!xs.isEmpty)) H
theorem zkm (hr : zga X) : OpR X (compareOp .Eq) rEqE := by
 intro pins s σ H x y v u Q I rx ry h
 obtain ⟨a, b, xs, rfl, rfl, ha, hb, q⟩ := h
 cases (show v = Value.ref a from rx)
 cases (show u = Value.ref b from ry)
 unfold zga at hr
 obtain ⟨_, its, n, rv, hg⟩ := (show ObjOk X.prog X.w H s.heap a (.lst xs) from I.hok a _ ha)
 obtain ⟨_, its', n', rv', hg'⟩ := (show ObjOk X.prog X.w H s.heap b (.lst []) from I.hok b _ hb)
 cases rv'
 cases xs with
 | nil =>
  cases rv
  exact zgv ⟨_, hg, rfl, _, rfl⟩ ⟨_, hg', rfl, _, rfl⟩ rfl (by omega) (fun j k1 k2 => absurd k1 (by simp)) ⟨.bl true, H, I, rfl, q⟩
 | cons x xs =>
  have l := rv.length
  exact SeqAt.RcAt.lists_lengths (l := a) (b := b) ⟨_, hg, rfl, _, rfl⟩ ⟨_, hg', rfl, _, rfl⟩ (by simp; intro z; rw [z] at l; simp at l) (by omega) X.prog X.w _ _ ⟨.bl false, H, I, rfl, q⟩
theorem zkk (hr : zga X) : OpR X (compareOp .NotEq) rNeE := by
 intro pins s σ H x y v u Q I rx ry h
 obtain ⟨a, b, xs, rfl, rfl, ha, hb, q⟩ := h
 cases (show v = Value.ref a from rx)
 cases (show u = Value.ref b from ry)
 unfold zga at hr
 obtain ⟨_, its, n, rv, hg⟩ := (show ObjOk X.prog X.w H s.heap a (.lst xs) from I.hok a _ ha)
 obtain ⟨_, its', n', rv', hg'⟩ := (show ObjOk X.prog X.w H s.heap b (.lst []) from I.hok b _ hb)
 cases rv'
 cases xs with
 | nil =>
  cases rv
  exact zkK ⟨_, hg, rfl, _, rfl⟩ ⟨_, hg', rfl, _, rfl⟩ rfl (by omega) (fun j k1 k2 => absurd k1 (by simp)) ⟨.bl false, H, I, rfl, q⟩
 | cons x xs =>
  have l := rv.length
  exact SeqAt.RcNeAt.lists_lengths (l := a) (b := b) ⟨_, hg, rfl, _, rfl⟩ ⟨_, hg', rfl, _, rfl⟩ (by simp; intro z; rw [z] at l; simp at l) (by omega) X.prog X.w _ _ ⟨.bl true, H, I, rfl, q⟩
end
theorem zjF {v : V} {i : Nat} {u : TS} {D : Ends} {σ : St} {H : Hp} (h : u D (σ.set i (some v)) H) : tSeq (tAsg (tC v) (zcO i)) u D σ H := h
theorem zjs : bootBuiltins "abs" = some (.builtin "abs") := by decide +kernel
abbrev wM : Int := 2147483563
structure Well (H : Hp) (b g l : Addr) (n : Int) : Prop where
 ex : ∃ (gs ls : List Int) (sd c : Int), H b = some (.lst [.ref g, .ref l, .int sd, .int c]) ∧ H g = some (.lst (gs.map V.int)) ∧ H l = some (.lst (ls.map V.int)) ∧
  gs.length ≤ 63 ∧ ls.length ≤ 63 ∧ (∀ x ∈ ls, 0 ≤ x ∧ x < wM) ∧ 0 ≤ sd ∧ sd < wM ∧ 0 ≤ c ∧ c ≤ n
 gl : g ≠ l
 bg : b ≠ g
 bl : b ≠ l
theorem Well.mono {H : Hp} {b g l : Addr} {n m : Int} (B : Well H b g l n) (h : n ≤ m) : Well H b g l m := by
 obtain ⟨⟨gs, ls, sd, c, h1, h2, h3, h4, h5, h6, h7, h8, h9, h10⟩, gl, bg, bl⟩ := B
 exact ⟨⟨gs, ls, sd, c, h1, h2, h3, h4, h5, h6, h7, h8, h9, Int.le_trans h10 h⟩, gl, bg, bl⟩
theorem Well.same {H H' : Hp} {b g l : Addr} {n : Int} (B : Well H b g l n) (h : Same H H') : Well H' b g l n := by
 obtain ⟨⟨gs, ls, sd, c, h1, h2, h3, h4⟩, gl, bg, bl⟩ := B
 exact ⟨⟨gs, ls, sd, c, h _ _ h1, h _ _ h2, h _ _ h3, h4⟩, gl, bg, bl⟩
theorem Well.tup {b g l : Addr} {n : Int} {H H' : Hp} (B : Well H b g l n) (s : SameB b g H H') {a : Addr} {xs : List V} (h : H a = some (.tup xs)) : H' a = some (.tup xs) := by
 obtain ⟨gs, ls, c, st, h1, h2, _⟩ := B.ex
 exact s a _ h (zed h h1 (by intro z; cases z)) (zed h h2 (by intro z; cases z))
theorem Well.free {H : Hp} {b g l : Addr} {n : Int} (B : Well H b g l n) {p : Addr} (h : H p = none) : p ≠ b ∧ p ≠ g ∧ p ≠ l := by
 obtain ⟨gs, ls, c, st, h1, h2, h3, _⟩ := B.ex
 exact ⟨(zaz h1 h).symm, (zaz h2 h).symm, (zaz h3 h).symm⟩
theorem Well.trk {H : Hp} {b g l : Addr} {n : Int} (B : Well H b g l n) : H b ≠ none ∧ H g ≠ none := by
 obtain ⟨gs, ls, c, st, h1, h2, _⟩ := B.ex
 refine ⟨?_, ?_⟩
 · rw [h1]; exact Option.some_ne_none _
 · rw [h2]; exact Option.some_ne_none _
theorem Well.back {H H' : Hp} {b g l : Addr} {n : Int} (B : Well H' b g l n) (s : SameB b g H H') : ∀ a, H' a = Option.none → H a = Option.none := fun a h => by
 cases e : H a with
 | none => rfl
 | some o =>
  have h1 : a ≠ b := fun z => B.trk.1 (z ▸ h)
  have h2 : a ≠ g := fun z => B.trk.2 (z ▸ h)
  rw [s a o e h1 h2] at h
  cases h
theorem Well.off {b g l p : Addr} {n : Int} {H : Hp} {o : HO} (B : Well H b g l n) (pb : p ≠ b) (pg : p ≠ g) (pl : p ≠ l) : Well (upd H p o) b g l n := by
 obtain ⟨gs, ls, c, st, e1, e2, e3, r⟩ := B.ex
 exact ⟨⟨gs, ls, c, st, by rw [zan pb.symm]; exact e1, by rw [zan pg.symm]; exact e2, by rw [zan pl.symm]; exact e3, r⟩, B.gl, B.bg, B.bl⟩
theorem WishAt.sameW {H H' : Hp} {b g l : Addr} {n : Int} {a : Addr} {w : List WP} (h : WishAt H a w) (B : Well H b g l n) (s : SameB b g H H') : WishAt H' a w := h.keep fun _ _ e => B.tup s e
theorem WsAt.sameW {H H' : Hp} {b g m : Addr} {n : Int} {l : Addr} {ws : List (Addr × List WP)} (h : WsAt H l ws) (B : Well H b g m n) (lb : l ≠ b) (lg : l ≠ g) (s : SameB b g H H') : WsAt H' l ws := ⟨s _ _ h.at' lb lg, fun x hx => ⟨(h.ok x hx).1.sameW B s, (h.ok x hx).2⟩, h.len⟩
theorem zeY {m : Int} (h : m ≤ 10 ^ 6) : m < 2 ^ 500 := Int.lt_of_le_of_lt h (by decide)
def zid (K : PySem.W.Frag) : Sp := fun vs H Q _ => ∃ (a : Addr) (ns : List Int), vs = [.ref a] ∧ SqL K H a (ns.map V.int) ∧ ns.length ≤ 63 ∧
 ∀ (b g l : Addr) (H' : Hp), Well H' b g l 0 → Same H H' → H b = none → H g = none → Q (.ref b) H'
def zie : Sp := fun vs H Q _ => ∃ (b g l : Addr) (n many : Int), vs = [.ref b, .int many] ∧ Well H b g l n ∧ n ≤ 2 ^ 40 ∧ 0 < many ∧ many < 2 ^ 500 ∧
 ∀ (r : Int) (H' : Hp), 0 ≤ r → r < many → Well H' b g l (n + 1) → SameB b g H H' → Q (.int r) H'
def zif : Sp := fun vs H Q _ => ∃ (b g l : Addr) (n most : Int), vs = [.ref b, .int most] ∧ Well H b g l n ∧ n ≤ 10 ^ 8 ∧ 1 ≤ most ∧ most ≤ 8 ∧
 ∀ (x : Str) (H' : Hp), FieldOk x → Well H' b g l (n + 12) → SameB b g H H' → Q (.str x) H'
def zdM : Sp := fun vs H Q _ => ∃ (b g l : Addr) (n many : Int), vs = [.ref b, .int many] ∧ Well H b g l n ∧ n ≤ 10 ^ 7 ∧ 1 ≤ many ∧ many ≤ 6 ∧
 ∀ (r : Addr) (fs : List Str) (H' : Hp), H r = none → H' r = some (.lst (fs.map V.str)) → fs.Pairwise ltF → (∀ f ∈ fs, FieldOk f) → 1 ≤ fs.length → (fs.length : Int) ≤ many → Well H' b g l (n + 200) → SameB b g H H' → Q (.ref r) H'
def zik : Sp := fun vs H Q _ => ∃ (b g l : Addr) (n : Int), vs = [.ref b] ∧ Well H b g l n ∧ n ≤ 10 ^ 9 ∧ ∀ (r : Int) (H' : Hp), -(10 ^ 15) < r → r < 10 ^ 15 → Well H' b g l (n + 5) → SameB b g H H' → Q (.int r) H'
def zii : Sp := fun vs H Q _ => ∃ (b g l : Addr) (n : Int), vs = [.ref b] ∧ Well H b g l n ∧ n ≤ 10 ^ 8 ∧
 ∀ (t : Addr) (lo sz : Int) (H' : Hp), H' t = some (.tup [.int lo, .int sz]) → -(10 ^ 15) < lo → lo < 10 ^ 15 → 1 ≤ sz → sz ≤ 10 ^ 10 → Well H' b g l (n + 12) → SameB b g H H' → Q (.ref t) H'
def zgi : Sp := fun vs H Q _ => ∃ (b g l t : Addr) (n lo sz wide : Int), vs = [.ref b, .ref t, .int wide] ∧ Well H b g l n ∧ n ≤ 10 ^ 8 ∧ H t = some (.tup [.int lo, .int sz]) ∧ 1 ≤ sz ∧ sz ≤ 10 ^ 10 ∧ 1 ≤ wide ∧ wide ≤ 100 ∧
 ∀ (r : Addr) (a b' : Option Int) (H' : Hp), H' r = some (.tup [eV a, eV b']) → leO a b' = true → Well H' b g l (n + 3) → SameB b g H H' → Q (.ref r) H'
def inF (fs : List Str) (w : List WP) : Prop := ∀ p ∈ w, p.1 ∈ fs
structure NamesAt (H : Hp) (b g : Addr) (a : Addr) (fs : List Str) : Prop where
 at' : H a = some (.lst (fs.map V.str))
 nb : a ≠ b
 ng : a ≠ g
 len : fs.length ≤ 6
 ok : ∀ f ∈ fs, FieldOk f
 asc : fs.Pairwise ltF
theorem NamesAt.sameB {H H' : Hp} {b g a : Addr} {fs : List Str} (h : NamesAt H b g a fs) (s : SameB b g H H') : NamesAt H' b g a fs := ⟨s _ _ h.at' h.nb h.ng, h.nb, h.ng, h.len, h.ok, h.asc⟩
def zgg : Sp := fun vs H Q _ => ∃ (b g l a t : Addr) (n lo sz wide : Int) (fs : List Str), vs = [.ref b, .ref a, .ref t, .int wide] ∧ Well H b g l n ∧ n ≤ 10 ^ 7 ∧ NamesAt H b g a fs ∧ H t = some (.tup [.int lo, .int sz]) ∧ 1 ≤ sz ∧ sz ≤ 10 ^ 10 ∧ 1 ≤ wide ∧ wide ≤ 100 ∧
 ∀ (r : Addr) (w : List WP) (H' : Hp), WishAt H' r w → WOk w → inF fs w → w.length ≤ 6 → Well H' b g l (n + 30) → SameB b g H H' → Q (.ref r) H'
def zdL : Sp := fun vs H Q _ => ∃ (b g l a t : Addr) (n lo sz wide many : Int) (fs : List Str), vs = [.ref b, .ref a, .ref t, .int wide, .int many] ∧ Well H b g l n ∧ n ≤ 10 ^ 6 ∧ NamesAt H b g a fs ∧ H t = some (.tup [.int lo, .int sz]) ∧ 1 ≤ sz ∧ sz ≤ 10 ^ 10 ∧ 1 ≤ wide ∧ wide ≤ 100 ∧ 0 ≤ many ∧ many ≤ 400 ∧
 ∀ (r : Addr) (ws : List (Addr × List WP)) (H' : Hp), H r = none → WsAt H' r ws → (ws.length : Int) = many → (∀ x ∈ ws, inF fs x.2 ∧ x.2.length ≤ 6) → Well H' b g l (n + 40 * many) → SameB b g H H' → Q (.ref r) H'
section
variable {X : Cx}
def zkO : V → Option Int → Option Int → Hp → VK → Prop := fun x lo hi H Q => ∃ y : Str, x = .str y ∧ y.length ≤ 100000 ∧ ∀ z : Str, z.length ≤ y.length → (∀ j, hi = some j → 0 ≤ j → (z.length : Int) ≤ j) → (∀ c ∈ z.cps.toList, c ∈ y.cps.toList) → (∀ j, lo = none → hi = some j → 1 ≤ j → 1 ≤ y.length → 1 ≤ z.length) → Q (.str z) H
theorem zhI (lo hi : Option Int) (n : Nat) : (Builtin.Str.strSliceIndices lo hi 1 n).length ≤ n ∧ (∀ j, hi = some j → 0 ≤ j → ((Builtin.Str.strSliceIndices lo hi 1 n).length : Int) ≤ j) ∧ (∀ j, lo = none → hi = some j → 1 ≤ j → 1 ≤ n → 0 ∈ Builtin.Str.strSliceIndices lo hi 1 n) := by
 refine ⟨indices_len_le lo hi n, fun j e h0 => ?_, fun j e1 e2 h1 h2 => ?_⟩
 · subst e
   unfold Builtin.Str.strSliceIndices sliceRange
   cases lo <;> simp only [show (1 : Int) > 0 by decide, if_true, List.length_map, List.length_range] <;> (split <;> (try split) <;> (try split) <;> (try simp only [Int.ediv_one]) <;> omega)
 · subst e1 e2
   unfold Builtin.Str.strSliceIndices sliceRange
   simp only [show (1 : Int) > 0 by decide, if_true]
   refine List.mem_map.mpr ⟨0, List.mem_range.mpr ?_, ?_⟩
   · have : ¬ j < 0 := by omega
     simp only [this, if_false, Int.ediv_one]
     split <;> omega
   · simp
theorem zgo : SlR X zkO := by
 intro pins s σ H x v vl vu lo hi sl Q I rx hs pl pu h
 obtain ⟨y, rfl, hl, q⟩ := h
 obtain ⟨t, rfl⟩ := (show ∃ t, v = Value.str y t from rx)
 obtain ⟨l, el, e1⟩ : ∃ l : Option (Int × Tok), vl = partValue l ∧ l.map (·.1) = lo := by
  cases pl with
  | none => exact ⟨none, rfl, rfl⟩
  | int i t => exact ⟨some (i, t), rfl, rfl⟩
 obtain ⟨u, eu, e2⟩ : ∃ l : Option (Int × Tok), vu = partValue l ∧ l.map (·.1) = hi := by
  cases pu with
  | none => exact ⟨none, rfl, rfl⟩
  | int i t => exact ⟨some (i, t), rfl, rfl⟩
 have hS : s.heap.IsSlice sl l u none := by
  obtain ⟨o, h1, h2, h3⟩ := hs
  exact ⟨o, h1, h2, by rw [h3, el, eu]; rfl⟩
 have pk : slicePicked y l u none = Builtin.Str.strSliceIndices lo hi 1 y.length := by unfold slicePicked; rw [e1, e2]; rfl
 obtain ⟨p1, p2, p3⟩ := zhI lo hi y.length
 have hsz : (100000 : Nat) ≤ sizeLine := by decide
 refine ⟨"str", _, F.slot_str_getitem.lookup, typeIs_str s y t, ?_⟩
 refine getItem_meets (typeIs_str s y t) (by decide) F.slot_str_getitem F.entry_str_getitem (F.args_str_getitem_2 _ _) (meets_str_getitem_slice y t sl l u none rfl) ⟨hS, ?_⟩
 unfold sliceMade
 rw [pk]
 split
 · rename_i hc
   have hc : (Builtin.Str.strSliceIndices lo hi 1 y.length).length = y.length := by simpa using hc
   exact ⟨.str y, H, I, ⟨t, rfl⟩, q y (Nat.le_refl _) (fun j e h0 => by have := p2 j e h0; omega) (fun c hc => hc) fun _ _ _ _ z => z⟩
 · have hz : (⟨((Builtin.Str.strSliceIndices lo hi 1 y.length).filterMap (y.cps[·]?)).toArray⟩ : Str).length ≤ (Builtin.Str.strSliceIndices lo hi 1 y.length).length := by
    show (List.filterMap _ _).toArray.size ≤ _
    rw [List.size_toArray]
    exact List.length_filterMap_le _ _
   refine ⟨by omega, ⟨.str _, H, I.tok _, ⟨_, rfl⟩, q _ (by omega) (fun j e h0 => by have := p2 j e h0; omega) (fun c hc => ?_) fun j f1 f2 f3 f4 => ?_⟩⟩
   · have hc : c ∈ (Builtin.Str.strSliceIndices lo hi 1 y.length).filterMap (y.cps[·]?) := by simpa using hc
     obtain ⟨i, _, hi'⟩ := List.mem_filterMap.mp hc
     exact Array.mem_toList_iff.mpr (Array.mem_of_getElem? hi')
   · have m0 := p3 j f1 f2 f3 f4
     show 1 ≤ (List.filterMap _ _).toArray.size
     rw [List.size_toArray]
     have h0 : 0 < y.cps.size := f4
     have : y.cps[0]'h0 ∈ (Builtin.Str.strSliceIndices lo hi 1 y.length).filterMap (y.cps[·]?) := List.mem_filterMap.mpr ⟨0, m0, by simp [h0]⟩
     exact List.length_pos_of_mem this
end
theorem ze3 (elt t0 i0 t1 i1 : Expr) (f0 f1 : List Expr) (scope : Scope) (pos : Pos) (it acc : Value) (env : Env) :
 compTurn (.ListComp elt [⟨t0, i0, f0, 0⟩, ⟨t1, i1, f1, 0⟩] scope pos) 0 it acc env = (do
  standAt i0.pos
  match ← pyNext it with
  | none => pure (.done .next)
  | some v =>
   letOwnedTupleGo t0 it v
   assign t0 env v
   let mut ok := true
   for c in f0 do
    if ok then ok ← isTrue c env (eval c env)
   if ok then
    let x ← eval i1 env
    standAt i1.pos
    let x ← foldedSetIterable i1 env x
    let _ ← runOwn (.compStart (.ListComp elt [⟨t0, i0, f0, 0⟩, ⟨t1, i1, f1, 0⟩] scope pos) 1 (← holding [x] (pyIter x)) acc env) env
   again (.compLoop (.ListComp elt [⟨t0, i0, f0, 0⟩, ⟨t1, i1, f1, 0⟩] scope pos) 0 it acc env)) := by rfl
theorem ze2 (elt t0 i0 t1 i1 : Expr) (f0 f1 : List Expr) (scope : Scope) (pos : Pos) (it acc : Value) (env : Env) :
 compTurn (.ListComp elt [⟨t0, i0, f0, 0⟩, ⟨t1, i1, f1, 0⟩] scope pos) 1 it acc env = (do
  standAt i1.pos
  match ← pyNext it with
  | none => pure (.done .next)
  | some v =>
   letOwnedTupleGo t1 it v
   assign t1 env v
   let mut ok := true
   for c in f1 do
    if ok then ok ← isTrue c env (eval c env)
   if ok then
    (do let _ ← call (.builtin "list.append") [acc, ← eval elt env])
   again (.compLoop (.ListComp elt [⟨t0, i0, f0, 0⟩, ⟨t1, i1, f1, 0⟩] scope pos) 1 it acc env)) := by rfl
section
variable {prog : Program} {w : World} {A : Around} {E : Value → Shared → Prop} {R : Result → Shared → Prop} {s : Shared}
variable {elt t0 i0 t1 i1 : Expr} {f0 f1 : List Expr} {scope : Scope} {pos : Pos} {it acc : Value} {env : Env}
theorem ze4 (I : Nat → Shared → Prop)
 (turn : ∀ n s, I n s → wpAny (model prog w) A (pyNext it) (fun r s₁ => match r with
  | none => R (.ok .next) s₁
  | some v => wpAny (model prog w) A (letOwnedTupleGo t1 it v) (fun _ s₁' => wpAny (model prog w) A (assign t1 env v) (fun _ s₂ =>
   wpAny (model prog w) A (forIn f1 true fun c r => if r = true then do let ok ← isTrue c env (eval c env); pure (ForInStep.yield ok) else pure (ForInStep.yield r)) (fun ok s₃ =>
    if ok = true then wpAny (model prog w) A (eval elt env) (fun x s₄ =>
     wpAny (model prog w) A (call (.builtin "list.append") [acc, x]) (fun _ s₅ => ∃ m, m < n ∧ I m s₅) (fun _ _ => False) s₄) (fun _ _ => False) s₃
    else ∃ m, m < n ∧ I m s₃) (fun _ _ => False) s₂) (fun _ _ => False) s₁') (fun _ _ => False) s₁) (fun _ _ => False) s)
 (n : Nat) (h : I n s) :
 codeAny (model prog w) A (.compLoop (.ListComp elt [⟨t0, i0, f0, 0⟩, ⟨t1, i1, f1, 0⟩] scope pos) 1 it acc env) R s := by
 refine codeAny_loop rfl I (fun n s hI => ?_) n h
 show wpAny _ A ((compTurn (.ListComp elt [⟨t0, i0, f0, 0⟩, ⟨t1, i1, f1, 0⟩] scope pos) 1 it acc env).onRaise (fun x => do noteFrame x env; theTreesLotGoes x)) _ _ s
 refine wpAny_noted ?_
 rw [ze2]
 refine wpAny_bind (wpAny_standAt (wpAny_bind (wpAny_mono (turn n s hI) (fun r s₁ h₁ => ?_) fun _ _ h' => h'.elim)))
 cases r with
 | none => exact wpAny_pure h₁
 | some v =>
  refine wpAny_bind (wpAny_mono h₁ (fun _ s₁' h₁' => ?_) fun _ _ h' => h'.elim)
  refine wpAny_bind (wpAny_mono h₁' (fun _ s₂ h₂ => wpAny_bind (wpAny_mono h₂ (fun ok s₃ h₃ => ?_) fun _ _ h' => h'.elim)) fun _ _ h' => h'.elim)
  cases ok with
  | false => exact wpAny_pure ⟨rfl, h₃⟩
  | true =>
   exact wpAny_bind (wpAny_bind (wpAny_mono h₃ (fun x s₄ h₄ => wpAny_bind (wpAny_mono h₄ (fun _ s₅ h₅ => wpAny_pure (wpAny_pure ⟨rfl, h₅⟩)) fun _ _ h' => h'.elim)) fun _ _ h' => h'.elim))
theorem ze5 (hs : ∀ x, foldedSetIterable i1 env x = pure x) (I : Nat → Shared → Prop)
 (turn : ∀ n s, I n s → wpAny (model prog w) A (pyNext it) (fun r s₁ => match r with
  | none => R (.ok .next) s₁
  | some v => wpAny (model prog w) A (letOwnedTupleGo t0 it v) (fun _ s₁' => wpAny (model prog w) A (assign t0 env v) (fun _ s₂ =>
   wpAny (model prog w) A (forIn f0 true fun c r => if r = true then do let ok ← isTrue c env (eval c env); pure (ForInStep.yield ok) else pure (ForInStep.yield r)) (fun ok s₃ =>
    if ok = true then wpAny (model prog w) A (eval i1 env) (fun x s₄ => wpAny (model prog w) A (pyIter x) (fun j s₅ =>
     codeAny (model prog w) A (.compStart (.ListComp elt [⟨t0, i0, f0, 0⟩, ⟨t1, i1, f1, 0⟩] scope pos) 1 j acc env) (fun r s₆ => r = .ok .next ∧ ∃ m, m < n ∧ I m s₆) s₅) (fun _ _ => False) s₄) (fun _ _ => False) s₃
    else ∃ m, m < n ∧ I m s₃) (fun _ _ => False) s₂) (fun _ _ => False) s₁') (fun _ _ => False) s₁) (fun _ _ => False) s)
 (n : Nat) (h : I n s) :
 codeAny (model prog w) A (.compLoop (.ListComp elt [⟨t0, i0, f0, 0⟩, ⟨t1, i1, f1, 0⟩] scope pos) 0 it acc env) R s := by
 refine codeAny_loop rfl I (fun n s hI => ?_) n h
 show wpAny _ A ((compTurn (.ListComp elt [⟨t0, i0, f0, 0⟩, ⟨t1, i1, f1, 0⟩] scope pos) 0 it acc env).onRaise (fun x => do noteFrame x env; theTreesLotGoes x)) _ _ s
 refine wpAny_noted ?_
 rw [ze3]
 refine wpAny_bind (wpAny_standAt (wpAny_bind (wpAny_mono (turn n s hI) (fun r s₁ h₁ => ?_) fun _ _ h' => h'.elim)))
 cases r with
 | none => exact wpAny_pure h₁
 | some v =>
  refine wpAny_bind (wpAny_mono h₁ (fun _ s₁' h₁' => ?_) fun _ _ h' => h'.elim)
  refine wpAny_bind (wpAny_mono h₁' (fun _ s₂ h₂ => wpAny_bind (wpAny_mono h₂ (fun ok s₃ h₃ => ?_) fun _ _ h' => h'.elim)) fun _ _ h' => h'.elim)
  cases ok with
  | false => exact wpAny_pure ⟨rfl, h₃⟩
  | true =>
   refine wpAny_bind (wpAny_mono h₃ (fun x s₄ h₄ => ?_) fun _ _ h' => h'.elim)
   refine wpAny_bind (wpAny_standAt ?_)
   rw [hs]
   refine wpAny_bind (wpAny_pure ?_)
   refine wpAny_bind (wpAny_holding (wpAny_mono h₄ (fun j s₅ h₅ => ?_) fun _ _ h' => h'.elim))
   refine wpAny_bind (wpAny_runOwn (codeAny_mono h₅ fun r s₆ h₆ => ?_))
   obtain ⟨rfl, h₆⟩ := h₆
   exact wpAny_pure ⟨rfl, h₆⟩
theorem zef (h0 : codeAny (model prog w) A (.compLoop (.ListComp elt [⟨t0, i0, f0, 0⟩, ⟨t1, i1, f1, 0⟩] scope pos) 1 it acc env) R s)
 (h : wpAny (model prog w) A (pyIter it) (fun it' s' => codeAny (model prog w) A (.compLoop (.ListComp elt [⟨t0, i0, f0, 0⟩, ⟨t1, i1, f1, 0⟩] scope pos) 1 it' acc env) R s')
  (notedBy (model prog w) A env fun x s' => R (.error x) s') s) :
 codeAny (model prog w) A (.compStart (.ListComp elt [⟨t0, i0, f0, 0⟩, ⟨t1, i1, f1, 0⟩] scope pos) 1 it acc env) R s := by
 refine codeAny_of_tree ?_
 show wpAny _ _ ((compStart (.ListComp elt [⟨t0, i0, f0, 0⟩, ⟨t1, i1, f1, 0⟩] scope pos) 1 it acc env).onRaise (fun x => do noteFrame x env; standAt theWindowsPlace)) _ _ s
 refine wpAny_notedAt ?_
 unfold compStart
 show wpAny _ _ (ask >>= _) _ _ s
 refine wpAny_bind (wpAny_askSetting (wpAny_ite ?_))
 split
 · first
    | exact wpAny_bind (wpAny_pure (wpAny_pure (And.intro rfl h0)))
    | exact wpAny_pure (And.intro rfl h0)
 · first
    | exact wpAny_bind (wpAny_rule (wpAny_bind (wpAny_standAt (wpAny_bind (wpAny_mono h (fun it' s' h' => wpAny_pure (And.intro rfl h')) fun _ _ x => x)))))
    | (refine wpAny_bind (wpAny_rule ?_); show wpAny _ _ (standAt i1.pos >>= _) _ _ s; exact wpAny_bind (wpAny_standAt (wpAny_bind (wpAny_mono h (fun it' s' h' => wpAny_pure (And.intro rfl h')) fun _ _ x => x))))
end
def zkw (J : It) (p : Addr) (g : TG) (tc : TT) (te : TE) (σ : St) (ys : List V) (H : Hp) (M : St → List V → Hp → Prop) : Prop :=
 ∃ W : Nat → Nat → St → List V → Hp → Prop, (∃ m, W 0 m σ ys H) ∧ ∀ i m σ' zs H, W i m σ' zs H → H p = some (.lst zs) ∧
  ((J.stop i H ∧ M σ' zs H) ∨ (J.go i H ∧ zs.length < sizeLine ∧ ∀ x H', J.yld i H x H' → g x σ' H' fun σ2 H2 => tc σ2 H2 fun b H3 =>
    if b = true then te σ2 H3 fun y H4 => H4 p = some (.lst zs) ∧ ∃ m', m' < m ∧ W (i + 1) m' σ2 (zs ++ [y]) (upd H4 p (.lst (zs ++ [y])))
    else ∃ m', m' < m ∧ W (i + 1) m' σ2 zs H3))
def zg6 (J : It) (p : Addr) (js : Cap) (g : TG) (tc : TT) (wi1 : TI) (g1 : TG) (tc1 : TT) (te : TE) (σ : St) (H : Hp) (Q : VK) : Prop :=
 ∃ W : Nat → Nat → St → List V → Hp → Prop, (∃ m, W 0 m (inn js σ) [] (upd H p (.lst []))) ∧ ∀ i m σ' ys H, W i m σ' ys H → H p = some (.lst ys) ∧
  ((J.stop i H ∧ Q (.ref p) H) ∨ (J.go i H ∧ ∀ x H', J.yld i H x H' → g x σ' H' fun σ2 H2 => tc σ2 H2 fun b H3 =>
    if b = true then wi1 σ2 H3 fun J1 H4 => zkw J1 p g1 tc1 te σ2 ys H4 fun σ3 zs H5 => ∃ m', m' < m ∧ W (i + 1) m' σ3 zs H5
    else ∃ m', m' < m ∧ W (i + 1) m' σ2 ys H3))
def tLC2 (wi : TI) (js : Cap) (g : TG) (tc : TT) (wi1 : TI) (g1 : TG) (tc1 : TT) (te : TE) : TE := fun σ H Q => wi σ H fun J H1 => ∀ p, H1 p = none → zg6 J p js g tc wi1 g1 tc1 te σ H1 Q
theorem zjZ {X : Cx} {elt t0 i0 t1 i1 : Expr} {f0 f1 : List Expr} {scope : Scope} {pos : Pos} {g1 : TG} {tc1 : TT} {te : TE} {pins : List (Addr × Obj)} {σ : St} {H : Hp} {s : Shared} {p : Addr} {ys : List V} {J : It} {it : Addr} {fp : List Addr} {tn : Nat → Heap → Prop} {M : St → List V → Hp → Prop}
 (hc : X.calm = true) (hx : X.xe = fun _ _ => False) (hg : PG X t1 g1) (ht : PIfs X f1 tc1) (he : PE X elt te) (I : Inv X pins σ H s) (T : Turn X.prog X.w X.K t1 J fp it tn) (st : tn 0 s.heap) (hf : ∀ b ∈ fp, FpOk X pins H b) (hw : zkw J p g1 tc1 te σ ys H M) :
 codeAny (model X.prog X.w) X.A (.compStart (.ListComp elt [⟨t0, i0, f0, 0⟩, ⟨t1, i1, f1, 0⟩] scope pos) 1 (.ref it) (.ref p) X.env) (fun r s' => r = .ok .next ∧ ∃ σ' zs H', Inv X pins σ' H' s' ∧ M σ' zs H') s := by
 obtain ⟨W, ⟨m0, w0⟩, turn⟩ := hw
 have stat : ∀ {H' : Hp}, (∀ b ∈ fp, H' b = none) → ∀ b ∈ fp, FpOk X pins H' b := fun hn b hb => ⟨hn b hb, (hf b hb).2⟩
 have loop : codeAny (model X.prog X.w) X.A (.compLoop (.ListComp elt [⟨t0, i0, f0, 0⟩, ⟨t1, i1, f1, 0⟩] scope pos) 1 (.ref it) (.ref p) X.env) (fun r s' => r = .ok .next ∧ ∃ σ' zs H', Inv X pins σ' H' s' ∧ M σ' zs H') s := by
  refine ze4 (fun n s' => ∃ i σ' ys H', Inv X pins σ' H' s' ∧ tn i s'.heap ∧ (∀ b ∈ fp, H' b = none) ∧ W i n σ' ys H') ?_ m0 ⟨0, σ, ys, H, I, st, fun b hb => (hf b hb).1, w0⟩
  rintro n s5 ⟨i, σ5, zs, H5, I5, st5, fr5, w5⟩
  obtain ⟨hp5, tu⟩ := turn i n σ5 zs H5 w5
  rcases tu with ⟨stop, qn⟩ | ⟨go, hz, step⟩
  · refine thn (T.done X rfl rfl rfl hc i pins s5 σ5 H5 (fun _ _ => False) I5 (stat fr5) st5 stop) fun r s6 ⟨hr, I6⟩ => ?_
    subst hr
    exact ⟨rfl, σ5, zs, H5, I6, qn⟩
  · refine thn (T.item X rfl rfl rfl hc i pins s5 σ5 H5 (fun _ _ => False) I5 (stat fr5) st5 go) fun r s6 ⟨u, hr, h6⟩ => ?_
    subst hr
    refine thn h6 fun _ s7 ⟨x, H7, I7, r7, y7, st7, fr7⟩ => ?_
    have I7' := I7.pinned (stat fr7) (T.obj _ _ st7)
    have G := hg _ s7 σ5 H7 x u _ I7' r7 (step x H7 y7)
    rw [hx] at G
    refine thn G fun _ s8 ⟨σ8, H8, I8, q8⟩ => ?_
    have Tt := ht _ s8 σ8 H8 _ I8 q8
    rw [hx] at Tt
    refine thn Tt fun b s9 ⟨H9, I9, q9⟩ => ?_
    have again : ∀ {s' : Shared} {ys' : List V} {H' : Hp}, Inv X (pins ++ zaX fp s7.heap) σ8 H' s' → (∃ m', m' < n ∧ W (i + 1) m' σ8 ys' H') →
     ∃ m, m < n ∧ ∃ i σ' ys H', Inv X pins σ' H' s' ∧ tn i s'.heap ∧ (∀ b ∈ fp, H' b = none) ∧ W i m σ' ys H' := fun {s' ys' H'} I' ⟨m', hm, w'⟩ => by
     refine ⟨m', hm, i + 1, σ8, ys', H', I'.unpinned, T.keep _ _ _ st7 fun b hb o e => (I'.pin (b, o) (List.mem_append_right _ (List.mem_append_right _ (zaB hb e)))).1, fun b hb => ?_, w'⟩
     obtain ⟨o, e, d⟩ := T.obj _ _ st7 b hb
     exact (I'.pin (b, o) (List.mem_append_right _ (List.mem_append_right _ (zaB hb e)))).2.1
    cases b with
    | false => exact again I9 q9
    | true =>
     have Ee := he _ s9 σ8 H9 _ I9 q9
     rw [hx] at Ee
     show wpAny _ _ _ _ _ _
     refine thn Ee fun xv s10 ⟨y, H10, I10, r10, hp10, q10⟩ => ?_
     have Ap := zbU (X := X) _ s10 σ8 H10 (.ref p) [y] (.ref p) [xv] (fun _ H' => H' = upd H10 p (.lst (zs ++ [y]))) I10 rfl (.cons r10 .nil) ⟨p, zs, y, rfl, rfl, hp10, hz, rfl⟩
     rw [hx] at Ap
     refine thn Ap fun _ s11 ⟨_, H11, I11, _, e11⟩ => ?_
     subst e11
     exact again I11 q10
 exact zef loop (T.self _ 0 _ _ _ st loop)
section
variable {X : Cx} {tg iter tg1 iter1 elt : Expr} {ifs ifs1 : List Expr} {wi wi1 : TI} {js : Cap} {g g1 : TG} {tc tc1 : TT} {te : TE} {N' : List Str} {scope : Scope} {pos : Pos}
theorem ziR {pins : List (Addr × Obj)} {σ : St} {H : Hp} {s : Shared} {E : Value → Shared → Prop} {Q : VK} {J : It} {it : Addr} {fp : List Addr} {tn : Nat → Heap → Prop} {cl : List (Str × Addr)}
 (hc : X.calm = true) (ok : CapOk X N' js scope) (hs1 : ∀ (e : Env) x, foldedSetIterable iter1 e x = pure x)
 (h2 : ∀ x c, cl.lookup x = some c → X.env.cells.lookup x = some c) (h3 : ∀ p ∈ scope.names, p.2 = .free → (cl.lookup p.1).isSome = true)
 (hg : ∀ cl C s₀ H₀ ex, PG (lcx X N' scope cl C s₀ H₀ ex) tg g) (ht : ∀ cl C s₀ H₀ ex, PIfs (lcx X N' scope cl C s₀ H₀ ex) ifs tc) (hi1 : ∀ cl C s₀ H₀ ex, PI (lcx X N' scope cl C s₀ H₀ ex) tg1 iter1 wi1) (hg1 : ∀ cl C s₀ H₀ ex, PG (lcx X N' scope cl C s₀ H₀ ex) tg1 g1) (ht1 : ∀ cl C s₀ H₀ ex, PIfs (lcx X N' scope cl C s₀ H₀ ex) ifs1 tc1) (he : ∀ cl C s₀ H₀ ex, PE (lcx X N' scope cl C s₀ H₀ ex) elt te)
 (I : Inv X pins σ H s) (T : Turn X.prog X.w X.K tg J fp it tn) (st : tn 0 s.heap) (hf : ∀ b ∈ fp, FpOk X pins H b)
 (hw : ∀ p, H p = none → zg6 J p js g tc wi1 g1 tc1 te σ H Q) :
 wpAny (model X.prog X.w) X.A (newList []) (fun acc s₃ => wpAny (model X.prog X.w) X.A (newFunctionEnv scope X.env.globals cl [] X.env.qual none .none (some X.env)) (fun cenv s₄ =>
  codeAny (model X.prog X.w) X.A (.compStart (.ListComp elt [⟨tg, iter, ifs, 0⟩, ⟨tg1, iter1, ifs1, 0⟩] scope pos) 0 (.ref it) acc { cenv with scope := relabel scope X.env })
   (fun r s' => r = .ok .next ∧ (∃ m, s'.heap.Ns cenv.locals m) ∧ ∃ v H', RelV v acc ∧ Inv X pins σ H' s' ∧ FpOk X pins H' cenv.locals ∧ Q v H') s₄) E s₃) E s := by
 have objs := T.obj _ _ st
 refine wpAny_newObj_type ?_ (by show 0 ≤ sizeLine; decide)
 obtain ⟨W, ⟨m0, w0⟩, turn⟩ := hw s.heap.objs.size (I.hok.fresh (Nat.le_refl _))
 generalize hp : s.heap.objs.size = p at *
 have kp : ∀ b u, s.heap.get? b = some u → (s.heap.push { cls := .type "list", dict := none, data := .seq ([] : List Value).toArray }).get? b = some u := fun b u e => Heap.get?_push_of_some _ e
 have I3 : Inv X pins σ (upd H p (.lst [])) { s with heap := s.heap.push { cls := .type "list", dict := none, data := .seq ([] : List Value).toArray } } := by
  refine I.laid (t' := s.toks) kp (by rw [hp]; exact Nat.le_refl _) ⟨Nat.zero_le _, [], 0, .nil, ?_⟩
  have := Heap.get?_push_size s.heap (o := { cls := .type "list", dict := none, data := .seq ([] : List Value).toArray }) rfl
  rw [hp] at this
  exact this
 have fne : ∀ b ∈ fp, b ≠ p := fun b hb => by
  obtain ⟨o, e, _⟩ := objs b hb
  have := Heap.lt_size e
  rw [← hp]
  exact Nat.ne_of_lt this
 have hf3 : ∀ b ∈ fp, FpOk X pins (upd H p (.lst [])) b := fun b hb => ⟨by rw [zan (fne b hb)]; exact (hf b hb).1, (hf b hb).2⟩
 have st3 : tn 0 (s.heap.push { cls := .type "list", dict := none, data := .seq ([] : List Value).toArray }) := T.keep _ _ _ st fun b _ o e => kp b o e
 have lt3 : ∀ b ∈ fp, b < (s.heap.push { cls := .type "list", dict := none, data := .seq ([] : List Value).toArray }).objs.size := fun b hb => by
  obtain ⟨o, e, _⟩ := objs b hb
  exact Heap.lt_size (kp b o e)
 generalize hs3 : ({ s with heap := s.heap.push { cls := .type "list", dict := none, data := .seq ([] : List Value).toArray } } : Shared) = s3 at *
 have eh : s.heap.push { cls := .type "list", dict := none, data := .seq ([] : List Value).toArray } = s3.heap := by rw [← hs3]
 rw [eh] at st3 lt3
 refine wpAny_newFunctionEnv ok.ncell (by intro y hy; simp at hy) (fun h₁ hns₁ hsb₁ => ?_) ok.kind
 try dsimp only at hns₁ hsb₁ ⊢
 have k4 : ∀ b u, s3.heap.get? b = some u → h₁.get? b = some u := fun b u e => (hsb₁.2 b (Nat.ne_of_lt (Heap.lt_size e))).trans (Heap.get?_push_of_some _ e)
 have I4 := zc7 (cl := cl) (h₁ := h₁) (t' := s3.toks + ([] : List (Str × Value)).length) ok I3 h2 h3 hf3 lt3 k4 ⟨_, hns₁⟩
 have st4 : tn 0 h₁ := T.keep _ _ _ st3 fun b _ o e => k4 b o e
 generalize hX : lcx X N' scope cl s3.heap.objs.size s3 (upd H p (.lst [])) fp = X' at I4
 have hg' : PG X' tg g := by rw [← hX]; exact hg _ _ _ _ _
 have ht' : PIfs X' ifs tc := by rw [← hX]; exact ht _ _ _ _ _
 have he' : PE X' elt te := by rw [← hX]; exact he _ _ _ _ _
 have hi1' : PI X' tg1 iter1 wi1 := by rw [← hX]; exact hi1 _ _ _ _ _
 have hg1' : PG X' tg1 g1 := by rw [← hX]; exact hg1 _ _ _ _ _
 have ht1' : PIfs X' ifs1 tc1 := by rw [← hX]; exact ht1 _ _ _ _ _
 have hs1' : ∀ x, foldedSetIterable iter1 (compEnvC scope cl s3.heap.objs.size X.env) x = pure x := hs1 _
 have eP : X'.prog = X.prog := by rw [← hX]; rfl
 have ew : X'.w = X.w := by rw [← hX]; rfl
 have eK : X'.K = X.K := by rw [← hX]; rfl
 have ec : X'.calm = true := by rw [← hX]; exact hc
 have eA : X'.A = X.A := by rw [← hX]; rfl
 have ex : X'.xe = fun _ _ => False := by rw [← hX]; rfl
 have eE : X'.env = compEnvC scope cl s3.heap.objs.size X.env := by rw [← hX]; rfl
 have eEx : X'.ex = fp := by rw [← hX]; rfl
 have eN : X'.pn = [] := by rw [← hX]; rfl
 have stat : ∀ {H' : Hp}, (∀ b ∈ fp, H' b = none) → ∀ b ∈ fp, FpOk X' [] H' b := fun {H'} hn b hb => by
  have okc := I4.ok
  refine ⟨hn b hb, (okc.exf b (by rw [eEx]; exact hb)).1, okc.exfs b (by rw [eEx]; exact hb), .inl (by rw [eEx]; exact hb), (okc.exf b (by rw [eEx]; exact hb)).2, fun q hq => ?_⟩
  rw [eN] at hq
  cases hq
 have loop : ∀ s₄ : Shared, s₄ = { s3 with heap := h₁, toks := s3.toks + ([] : List (Str × Value)).length } →
  codeAny (model X.prog X.w) X.A (.compLoop (.ListComp elt [⟨tg, iter, ifs, 0⟩, ⟨tg1, iter1, ifs1, 0⟩] scope pos) 0 (.ref it) (.ref p) (compEnvC scope cl s3.heap.objs.size X.env))
   (fun r s' => r = .ok .next ∧ (∃ m, s'.heap.Ns s3.heap.objs.size m) ∧ ∃ v H', RelV v (.ref p) ∧ Inv X pins σ H' s' ∧ FpOk X pins H' s3.heap.objs.size ∧ Q v H') s₄ := by
  rintro s₄ rfl
  refine ze5 hs1' (fun n s' => ∃ i σ' ys H', Inv X' [] σ' H' s' ∧ tn i s'.heap ∧ (∀ b ∈ fp, H' b = none) ∧ W i n σ' ys H') ?_ m0 ⟨0, _, [], _, I4, st4, fun b hb => (hf3 b hb).1, w0⟩
  rintro n s5 ⟨i, σ5, ys, H5, I5, st5, fr5, w5⟩
  obtain ⟨hp5, tu⟩ := turn i n σ5 ys H5 w5
  rcases tu with ⟨stop, qn⟩ | ⟨go, step⟩
  · have D := T.done X' eP ew eK ec i [] s5 σ5 H5 (fun _ _ => False) I5 (stat fr5) st5 stop
    rw [eA] at D
    refine thn D fun r s6 ⟨hr, I6⟩ => ?_
    subst hr
    refine ⟨rfl, ?_, .ref p, H5, rfl, ?_, ?_, qn⟩
    · obtain ⟨m, hm, _⟩ := I6.loc
      rw [eE] at hm
      exact ⟨m, hm⟩
    · have b6 := I6.base
      have ho := I6.os
      have hk := I6.hok
      have hb := I6.bare
      subst hX
      exact I3.call' (ch := fp) ho b6 hk hb fun b hb' => ⟨(hf b hb').2.2.2.1, (hf b hb').2.1, (hf b hb').2.2.2.2.1, (hf b hb').2.2.2.2.2⟩
    · have fr := I6.free
      rw [eE] at fr
      exact I3.fpOk (Nat.le_refl _) fr
  · have D := T.item X' eP ew eK ec i [] s5 σ5 H5 (fun _ _ => False) I5 (stat fr5) st5 go
    rw [eA] at D
    refine thn D fun r s6 ⟨u, hr, h6⟩ => ?_
    subst hr
    refine thn h6 fun _ s7 ⟨x, H7, I7, r7, y7, st7, fr7⟩ => ?_
    have I7' := I7.pinned (stat fr7) (T.obj _ _ st7)
    have G := hg' _ s7 σ5 H7 x u _ I7' r7 (step x H7 y7)
    rw [eP, ew, eA, ex, eE] at G
    refine thn G fun _ s8 ⟨σ8, H8, I8, q8⟩ => ?_
    have Tt := ht' _ s8 σ8 H8 _ I8 q8
    rw [eP, ew, eA, ex, eE] at Tt
    refine thn Tt fun b s9 ⟨H9, I9, q9⟩ => ?_
    have again : ∀ {s' : Shared} {σ8 : St} {ys' : List V} {H' : Hp}, Inv X' ([] ++ zaX fp s7.heap) σ8 H' s' → (∃ m', m' < n ∧ W (i + 1) m' σ8 ys' H') →
     ∃ m, m < n ∧ ∃ i σ' ys H', Inv X' [] σ' H' s' ∧ tn i s'.heap ∧ (∀ b ∈ fp, H' b = none) ∧ W i m σ' ys H' := fun {s' σ8 ys' H'} I' ⟨m', hm, w'⟩ => by
     refine ⟨m', hm, i + 1, σ8, ys', H', I'.unpinned, T.keep _ _ _ st7 fun b hb o e => (I'.pin (b, o) (List.mem_append_right _ (List.mem_append_right _ (zaB hb e)))).1, fun b hb => ?_, w'⟩
     obtain ⟨o, e, d⟩ := T.obj _ _ st7 b hb
     exact (I'.pin (b, o) (List.mem_append_right _ (List.mem_append_right _ (zaB hb e)))).2.1
    cases b with
    | false => exact again I9 q9
    | true =>
     have Ei := hi1' _ s9 σ8 H9 _ I9 q9
     rw [eP, ew, eA, ex, eE] at Ei
     show wpAny _ _ _ _ _ _
     refine thn Ei fun xv s10 h10 => thn h10 fun itv s11 h11 => ?_
     obtain ⟨it1, fp1, tn1, J1, H11, e11, I11, T1, st11, f11, hw11⟩ := h11
     subst e11
     have In := zjZ (X := X') (elt := elt) (t0 := tg) (i0 := iter) (t1 := tg1) (i1 := iter1) (f0 := ifs) (f1 := ifs1) (scope := scope) (pos := pos) ec ex hg1' ht1' he' I11 T1 st11 f11 hw11
     rw [eP, ew, eA, eE] at In
     refine codeAny_mono In fun r s12 ⟨hr, σ12, zs, H12, I12, m12⟩ => ⟨hr, ?_⟩
     exact again I12 m12
 exact codeAny_compStart_list (loop _ rfl) (T.self _ 0 _ _ _ st4 (loop _ rfl))
theorem ziw {i : Nat} {x : Str} {px : Pos} {spos : Pos} (hN : X.N.Nodup) (hi' : X.N[i]? = some x) (hx : Loc X.env.scope x) (hc : X.calm = true) (ok : CapOk X N' js scope) (hi : PI X tg iter wi)
 (hg : ∀ cl C s₀ H₀ ex, PG (lcx X N' scope cl C s₀ H₀ ex) tg g) (ht : ∀ cl C s₀ H₀ ex, PIfs (lcx X N' scope cl C s₀ H₀ ex) ifs tc) (hi1 : ∀ cl C s₀ H₀ ex, PI (lcx X N' scope cl C s₀ H₀ ex) tg1 iter1 wi1) (hg1 : ∀ cl C s₀ H₀ ex, PG (lcx X N' scope cl C s₀ H₀ ex) tg1 g1) (ht1 : ∀ cl C s₀ H₀ ex, PIfs (lcx X N' scope cl C s₀ H₀ ex) ifs1 tc1) (he : ∀ cl C s₀ H₀ ex, PE (lcx X N' scope cl C s₀ H₀ ex) elt te)
 (hsw : swapsWith (.ListComp elt [⟨tg, iter, ifs, 0⟩, ⟨tg1, iter1, ifs1, 0⟩] scope pos) (some (.Name x px)) spos.line X.env = pure true := by rfl)
 (hs : ∀ x, foldedSetIterable iter X.env x = pure x := by intro _; rfl) (hs1 : ∀ (e : Env) x, foldedSetIterable iter1 e x = pure x := by intro _ _; rfl) (hf : X.fn x = true ∨ X.env.scope.names.lookup x = some .local := by first | exact .inl rfl | exact .inr rfl | assumption) :
 PS X (.Assign [.Name x px] (.ListComp elt [⟨tg, iter, ifs, 0⟩, ⟨tg1, iter1, ifs1, 0⟩] scope pos) spos) (tAsg (tLC2 wi js g tc wi1 g1 tc1 te) (zcO i)) := by
 intro pins s σ H D I h
 obtain ⟨cl, c1, c2, c3⟩ := zd9 (scope := scope) I.ok.has ok.free
 rw [exec_Assign_Name_used _ _ _ _ hsw]
 refine wpAny_bind (wpAny_standAt (wpAny_bind ?_))
 show wpAny _ X.A (do let _ ← comprehension (.ListComp elt [⟨tg, iter, ifs, 0⟩, ⟨tg1, iter1, ifs1, 0⟩] scope pos) scope X.env _ (newList []) false (eval iter X.env) (some (assign (.Name x px) X.env))) _ _ s
 refine wpAny_bind (wpAny_mono (wpAny_comprehension_free (use := some (assign (.Name x px) X.env)) (Q := fun _ s' => SP X pins D .next s') rfl hs c1 ok.kind ok.names
  (thn (hi pins s σ H _ I h) fun v s1 h1 => thn h1 fun itv s2 h2 => ?_)) (fun _ s' hq => wpAny_pure (wpAny_pure hq)) fun _ _ e => e)
 obtain ⟨it, fp, tn, J, H2, e, I2, T, st2, f2, hw⟩ := h2
 subst e
 refine wpAny_mono (ziR (Q := fun x H1 => zcO i x σ H1 D.nx) (iter := iter) (pos := pos) hc ok hs1 c2 c3 hg ht hi1 hg1 ht1 he I2 T st2 f2 hw) (fun acc s3 h3 => wpAny_mono h3 (fun cenv s4 h4 => ?_) fun _ _ z => z) fun _ _ z => z
 refine codeAny_mono h4 fun r s5 h5 => ?_
 obtain ⟨rfl, ⟨m, hm⟩, v, H5, rv, I5, f5, q5⟩ := h5
 obtain ⟨f0, f1, f2', f3, f4, f6⟩ := f5
 show wpAny _ X.A (assign (.Name x px) X.env acc) _ _ _
 refine wpAny_assign_Name (zdJ I5 hN hi' hx rv (fun s6 I6 ch => ?_) hf)
 obtain ⟨a, sb, ha⟩ := ch
 have na : cenv.locals ≠ a := by
  rcases ha with z | z
  · rw [z]; exact f1
  · exact fun y => f4 x a z y.symm
 refine ⟨m, hm.sameBut sb na, fun h' sb' => ⟨_, H5, I6.turned (t' := s6.toks) (fun b o hb e => (sb'.2 b hb).trans e) f0 f1 f3 f4 f6, q5⟩⟩
end
theorem zkH (elt t0 i0 t1 i1 : Expr) (f0 f1 : List Expr) (scope : Scope) (pos : Pos) (it acc : Value) (env : Env) :
 compTurn (.SetComp elt [⟨t0, i0, f0, 0⟩, ⟨t1, i1, f1, 0⟩] scope pos) 0 it acc env = (do
  standAt i0.pos
  match ← pyNext it with
  | none => pure (.done .next)
  | some v =>
   letOwnedTupleGo t0 it v
   assign t0 env v
   let mut ok := true
   for c in f0 do
    if ok then ok ← isTrue c env (eval c env)
   if ok then
    let x ← eval i1 env
    standAt i1.pos
    let x ← foldedSetIterable i1 env x
    let _ ← runOwn (.compStart (.SetComp elt [⟨t0, i0, f0, 0⟩, ⟨t1, i1, f1, 0⟩] scope pos) 1 (← holding [x] (pyIter x)) acc env) env
   again (.compLoop (.SetComp elt [⟨t0, i0, f0, 0⟩, ⟨t1, i1, f1, 0⟩] scope pos) 0 it acc env)) := by rfl
theorem zkG (elt t0 i0 t1 i1 : Expr) (f0 f1 : List Expr) (scope : Scope) (pos : Pos) (it acc : Value) (env : Env) :
 compTurn (.SetComp elt [⟨t0, i0, f0, 0⟩, ⟨t1, i1, f1, 0⟩] scope pos) 1 it acc env = (do
  standAt i1.pos
  match ← pyNext it with
  | none => pure (.done .next)
  | some v =>
   letOwnedTupleGo t1 it v
   assign t1 env v
   let mut ok := true
   for c in f1 do
    if ok then ok ← isTrue c env (eval c env)
   if ok then
    (do let v ← eval elt env; standAt elt.pos; let _ ← call (.builtin "set.add") [acc, v])
   again (.compLoop (.SetComp elt [⟨t0, i0, f0, 0⟩, ⟨t1, i1, f1, 0⟩] scope pos) 1 it acc env)) := by rfl
section
variable {prog : Program} {w : World} {A : Around} {E : Value → Shared → Prop} {R : Result → Shared → Prop} {s : Shared}
variable {elt t0 i0 t1 i1 : Expr} {f0 f1 : List Expr} {scope : Scope} {pos : Pos} {it acc : Value} {env : Env}
theorem zkI (I : Nat → Shared → Prop)
 (turn : ∀ n s, I n s → wpAny (model prog w) A (pyNext it) (fun r s₁ => match r with
  | none => R (.ok .next) s₁
  | some v => wpAny (model prog w) A (letOwnedTupleGo t1 it v) (fun _ s₁' => wpAny (model prog w) A (assign t1 env v) (fun _ s₂ =>
   wpAny (model prog w) A (forIn f1 true fun c r => if r = true then do let ok ← isTrue c env (eval c env); pure (ForInStep.yield ok) else pure (ForInStep.yield r)) (fun ok s₃ =>
    if ok = true then wpAny (model prog w) A (eval elt env) (fun x s₄ =>
     wpAny (model prog w) A (call (.builtin "set.add") [acc, x]) (fun _ s₅ => ∃ m, m < n ∧ I m s₅) (fun _ _ => False) s₄) (fun _ _ => False) s₃
    else ∃ m, m < n ∧ I m s₃) (fun _ _ => False) s₂) (fun _ _ => False) s₁') (fun _ _ => False) s₁) (fun _ _ => False) s)
 (n : Nat) (h : I n s) :
 codeAny (model prog w) A (.compLoop (.SetComp elt [⟨t0, i0, f0, 0⟩, ⟨t1, i1, f1, 0⟩] scope pos) 1 it acc env) R s := by
 refine codeAny_loop rfl I (fun n s hI => ?_) n h
 show wpAny _ A ((compTurn (.SetComp elt [⟨t0, i0, f0, 0⟩, ⟨t1, i1, f1, 0⟩] scope pos) 1 it acc env).onRaise (fun x => do noteFrame x env; theTreesLotGoes x)) _ _ s
 refine wpAny_noted ?_
 rw [zkG]
 refine wpAny_bind (wpAny_standAt (wpAny_bind (wpAny_mono (turn n s hI) (fun r s₁ h₁ => ?_) fun _ _ h' => h'.elim)))
 cases r with
 | none => exact wpAny_pure h₁
 | some v =>
  refine wpAny_bind (wpAny_mono h₁ (fun _ s₁' h₁' => ?_) fun _ _ h' => h'.elim)
  refine wpAny_bind (wpAny_mono h₁' (fun _ s₂ h₂ => wpAny_bind (wpAny_mono h₂ (fun ok s₃ h₃ => ?_) fun _ _ h' => h'.elim)) fun _ _ h' => h'.elim)
  cases ok with
  | false => exact wpAny_pure ⟨rfl, h₃⟩
  | true =>
   exact wpAny_bind (wpAny_bind (wpAny_mono h₃ (fun x s₄ h₄ => wpAny_bind (wpAny_standAt (wpAny_bind (wpAny_mono h₄ (fun _ s₅ h₅ => wpAny_pure (wpAny_pure ⟨rfl, h₅⟩)) fun _ _ h' => h'.elim)))) fun _ _ h' => h'.elim))
theorem zkJ (hs : ∀ x, foldedSetIterable i1 env x = pure x) (I : Nat → Shared → Prop)
 (turn : ∀ n s, I n s → wpAny (model prog w) A (pyNext it) (fun r s₁ => match r with
  | none => R (.ok .next) s₁
  | some v => wpAny (model prog w) A (letOwnedTupleGo t0 it v) (fun _ s₁' => wpAny (model prog w) A (assign t0 env v) (fun _ s₂ =>
   wpAny (model prog w) A (forIn f0 true fun c r => if r = true then do let ok ← isTrue c env (eval c env); pure (ForInStep.yield ok) else pure (ForInStep.yield r)) (fun ok s₃ =>
    if ok = true then wpAny (model prog w) A (eval i1 env) (fun x s₄ => wpAny (model prog w) A (pyIter x) (fun j s₅ =>
     codeAny (model prog w) A (.compStart (.SetComp elt [⟨t0, i0, f0, 0⟩, ⟨t1, i1, f1, 0⟩] scope pos) 1 j acc env) (fun r s₆ => r = .ok .next ∧ ∃ m, m < n ∧ I m s₆) s₅) (fun _ _ => False) s₄) (fun _ _ => False) s₃
    else ∃ m, m < n ∧ I m s₃) (fun _ _ => False) s₂) (fun _ _ => False) s₁') (fun _ _ => False) s₁) (fun _ _ => False) s)
 (n : Nat) (h : I n s) :
 codeAny (model prog w) A (.compLoop (.SetComp elt [⟨t0, i0, f0, 0⟩, ⟨t1, i1, f1, 0⟩] scope pos) 0 it acc env) R s := by
 refine codeAny_loop rfl I (fun n s hI => ?_) n h
 show wpAny _ A ((compTurn (.SetComp elt [⟨t0, i0, f0, 0⟩, ⟨t1, i1, f1, 0⟩] scope pos) 0 it acc env).onRaise (fun x => do noteFrame x env; theTreesLotGoes x)) _ _ s
 refine wpAny_noted ?_
 rw [zkH]
 refine wpAny_bind (wpAny_standAt (wpAny_bind (wpAny_mono (turn n s hI) (fun r s₁ h₁ => ?_) fun _ _ h' => h'.elim)))
 cases r with
 | none => exact wpAny_pure h₁
 | some v =>
  refine wpAny_bind (wpAny_mono h₁ (fun _ s₁' h₁' => ?_) fun _ _ h' => h'.elim)
  refine wpAny_bind (wpAny_mono h₁' (fun _ s₂ h₂ => wpAny_bind (wpAny_mono h₂ (fun ok s₃ h₃ => ?_) fun _ _ h' => h'.elim)) fun _ _ h' => h'.elim)
  cases ok with
  | false => exact wpAny_pure ⟨rfl, h₃⟩
  | true =>
   refine wpAny_bind (wpAny_mono h₃ (fun x s₄ h₄ => ?_) fun _ _ h' => h'.elim)
   refine wpAny_bind (wpAny_standAt ?_)
   rw [hs]
   refine wpAny_bind (wpAny_pure ?_)
   refine wpAny_bind (wpAny_holding (wpAny_mono h₄ (fun j s₅ h₅ => ?_) fun _ _ h' => h'.elim))
   refine wpAny_bind (wpAny_runOwn (codeAny_mono h₅ fun r s₆ h₆ => ?_))
   obtain ⟨rfl, h₆⟩ := h₆
   exact wpAny_pure ⟨rfl, h₆⟩
theorem zir (d : Nat) (hd : d = 0 ∨ d = 1) (h0 : codeAny (model prog w) A (.compLoop (.SetComp elt [⟨t0, i0, f0, 0⟩, ⟨t1, i1, f1, 0⟩] scope pos) d it acc env) R s)
 (h : wpAny (model prog w) A (pyIter it) (fun it' s' => codeAny (model prog w) A (.compLoop (.SetComp elt [⟨t0, i0, f0, 0⟩, ⟨t1, i1, f1, 0⟩] scope pos) d it' acc env) R s')
  (notedBy (model prog w) A env fun x s' => R (.error x) s') s) :
 codeAny (model prog w) A (.compStart (.SetComp elt [⟨t0, i0, f0, 0⟩, ⟨t1, i1, f1, 0⟩] scope pos) d it acc env) R s := by
 rcases hd with rfl | rfl
 all_goals
  refine codeAny_of_tree ?_
  show wpAny _ _ ((compStart (.SetComp elt [⟨t0, i0, f0, 0⟩, ⟨t1, i1, f1, 0⟩] scope pos) _ it acc env).onRaise (fun x => do noteFrame x env; standAt theWindowsPlace)) _ _ s
  refine wpAny_notedAt ?_
  unfold compStart
  show wpAny _ _ (ask >>= _) _ _ s
  refine wpAny_bind (wpAny_askSetting (wpAny_ite ?_))
  split
  · first
     | exact wpAny_bind (wpAny_pure (wpAny_pure (And.intro rfl h0)))
     | exact wpAny_pure (And.intro rfl h0)
  · first
     | exact wpAny_bind (wpAny_rule (wpAny_bind (wpAny_standAt (wpAny_bind (wpAny_mono h (fun it' s' h' => wpAny_pure (And.intro rfl h')) fun _ _ x => x)))))
     | (refine wpAny_bind (wpAny_rule ?_); show wpAny _ _ (standAt _ >>= _) _ _ s; exact wpAny_bind (wpAny_standAt (wpAny_bind (wpAny_mono h (fun it' s' h' => wpAny_pure (And.intro rfl h')) fun _ _ x => x))))
theorem zes {h : Heap} {a : Addr} {ks : List Str} (T : TxSet prog w h a ks) : ∃ o, h.get? a = some o ∧ ∀ v, o.data ≠ .cell v := by
 obtain ⟨es, ep, t, ho, _⟩ := T.at'
 exact ⟨_, ho, fun v z => by cases z⟩
theorem zia {a : Addr} {ks : List Str} (T : TxSet prog w s.heap a ks) : s.TypeIs (.ref a) "set" := by
 obtain ⟨es, ep, t, ho, _⟩ := T.at'
 exact ⟨_, ho, rfl⟩
theorem ze6 {a : Addr} {ks : List Str} {k : Str} {tk : Tok} {Q : Value → Shared → Prop} (T : TxSet prog w s.heap a ks) (hroom : ks.length + 1 < scanBound)
 (h : ∀ h' ks', Heap.SameBut a s.heap h' → TxSet prog w h' a ks' → ks'.length ≤ ks.length + 1 → (∀ x, x ∈ ks' ↔ x ∈ ks ∨ x = k) → Q .none { s with heap := h', toks := s.toks + 1 }) :
 wpAny (model prog w) A (call (.builtin "set.add") [.ref a, .str k tk]) Q E s := by
 refine wpAny_call_entry PySem.F.slot_set_add (zia T) PySem.F.entry_set_add ?_ (PySem.F.args_set_add_2 _ _)
 unfold Builtin.«set.add» Builtin.Frozenset.oneOther
 simp only [List.isEmpty_nil, bind_assoc]
 unfold Builtin.Frozenset.addrOf setAdd
 refine wpAny_bind (wpAny_pure ?_)
 try dsimp only
 refine wpAny_bind (wpAny_pure ?_)
 try dsimp only
 refine wpAny_bind ?_
 refine wpAny_holding ?_
 refine wpAny_bind ((strKind prog w).pyHash (zge k tk) ?_)
 refine zjB (s := { s with toks := s.toks + 1 }) T hroom fun h' ks' sb T' l m b => ?_
 show wpAny _ _ (ret Value.none) _ _ _
 exact wpAny_pure ⟨_, rfl, h h' ks' sb T' l m⟩
theorem ziH {Q : Value → Shared → Prop} (h : Q (.ref s.heap.objs.size) { s with heap := s.heap.push { cls := .type "set", dict := none, data := .set #[] 0 (.fresh 0 0 (!byTx w)) } }) :
 wpAny (model prog w) A (newSet (.type "set")) Q E s := by
 unfold newSet
 obtain ⟨hp, g, d, tk, os⟩ := s
 dsimp only
 wp_walk
 refine wpAny_askSetting (wpAny_pure ?_)
 dsimp only
 simp only [newObj]
 refine wpAny_bind (wpAny_alloc (wpAny_pure ?_))
 exact h
end
def zjx (J : It) (g : TG) (tc : TT) (te : TE) (σ : St) (ks : List Str) (H : Hp) (M : St → List Str → Hp → Prop) : Prop :=
 ∃ W : Nat → Nat → St → List Str → Hp → Prop, (∃ m, W 0 m σ ks H) ∧ ∀ i m σ' zs H, W i m σ' zs H →
  ((J.stop i H ∧ M σ' zs H) ∨ (J.go i H ∧ zs.length < 200 ∧ ∀ x H', J.yld i H x H' → g x σ' H' fun σ2 H2 => tc σ2 H2 fun b H3 =>
    if b = true then te σ2 H3 fun y H4 => ∃ k, y = .str k ∧ ∀ zs', zs'.length ≤ zs.length + 1 → (∀ x, x ∈ zs' ↔ x ∈ zs ∨ x = k) → zs'.Nodup → ∃ m', m' < m ∧ W (i + 1) m' σ2 zs' H4
    else ∃ m', m' < m ∧ W (i + 1) m' σ2 zs H3))
def zg5 (J : It) (js : Cap) (g : TG) (tc : TT) (wi1 : TI) (g1 : TG) (tc1 : TT) (te : TE) (σ : St) (H : Hp) (M : List Str → Hp → Prop) : Prop :=
 ∃ W : Nat → Nat → St → List Str → Hp → Prop, (∃ m, W 0 m (inn js σ) [] H) ∧ ∀ i m σ' ys H, W i m σ' ys H →
  ((J.stop i H ∧ M ys H) ∨ (J.go i H ∧ ∀ x H', J.yld i H x H' → g x σ' H' fun σ2 H2 => tc σ2 H2 fun b H3 =>
    if b = true then wi1 σ2 H3 fun J1 H4 => zjx J1 g1 tc1 te σ2 ys H4 fun σ3 zs H5 => ∃ m', m' < m ∧ W (i + 1) m' σ3 zs H5
    else ∃ m', m' < m ∧ W (i + 1) m' σ2 ys H3))
section
variable {X : Cx} {pins : List (Addr × Obj)} {σ : St} {H : Hp} {s : Shared} {p : Addr} {ks : List Str}
theorem zfQ (I : Inv X pins σ H s) (f : FpOk X pins H p) (T : TxSet X.prog X.w s.heap p ks) : Inv X (pins ++ zaX [p] s.heap) σ H s :=
 I.pinned (fun b hb => by rw [List.mem_singleton.mp hb]; exact f) (fun b hb => by rw [List.mem_singleton.mp hb]; exact zes T)
theorem zc8 {s' : Shared} {σ' : St} {H' : Hp} (I : Inv X (pins ++ zaX [p] s.heap) σ' H' s') (f : FpOk X pins H p) (T : TxSet X.prog X.w s.heap p ks) : Inv X pins σ' H' s' ∧ FpOk X pins H' p ∧ TxSet X.prog X.w s'.heap p ks := by
 obtain ⟨o, ho, _⟩ := zes T
 have hp := I.pin (p, o) (List.mem_append_right _ (List.mem_append_right _ (zaB (List.mem_singleton.mpr rfl) ho)))
 exact ⟨I.unpinned, ⟨hp.2.1, f.2⟩, T.kept fun o' e => by rw [ho] at e; cases e; exact hp.1⟩
theorem zi9 {b : Addr} {h : Heap} (f : FpOk X pins H b) (n : b ≠ p) : FpOk X (pins ++ zaX [p] h) H b := by
 obtain ⟨f0, f1, f2, f3, f4, f5⟩ := f
 refine ⟨f0, f1, f2, f3, f4, fun q hq => ?_⟩
 rcases List.mem_append.mp hq with z | z
 · exact f5 q (List.mem_append_left _ z)
 · rcases List.mem_append.mp z with z | z
   · exact f5 q (List.mem_append_right _ z)
   · have := (zd1 z).1
     rw [List.mem_singleton.mp this]
     exact n.symm
theorem zi3 {elt t0 i0 t1 i1 : Expr} {f0 f1 : List Expr} {scope : Scope} {pos : Pos} {g1 : TG} {tc1 : TT} {te : TE} {J : It} {it : Addr} {fp : List Addr} {tn : Nat → Heap → Prop} {M : St → List Str → Hp → Prop}
 (hc : X.calm = true) (hx : X.xe = fun _ _ => False) (hg : PG X t1 g1) (ht : PIfs X f1 tc1) (he : PE X elt te) (I : Inv X pins σ H s) (T : Turn X.prog X.w X.K t1 J fp it tn) (st : tn 0 s.heap) (hf : ∀ b ∈ fp, FpOk X pins H b) (hnp : p ∉ fp) (fp0 : FpOk X pins H p) (Tx : TxSet X.prog X.w s.heap p ks) (hw : zjx J g1 tc1 te σ ks H M) :
 codeAny (model X.prog X.w) X.A (.compStart (.SetComp elt [⟨t0, i0, f0, 0⟩, ⟨t1, i1, f1, 0⟩] scope pos) 1 (.ref it) (.ref p) X.env) (fun r s' => r = .ok .next ∧ ∃ σ' zs H', Inv X pins σ' H' s' ∧ FpOk X pins H' p ∧ TxSet X.prog X.w s'.heap p zs ∧ M σ' zs H') s := by
 obtain ⟨W, ⟨m0, w0⟩, turn⟩ := hw
 have nep : ∀ b ∈ fp, b ≠ p := fun b hb z => hnp (z ▸ hb)
 have stat : ∀ {H' : Hp} {h : Heap}, (∀ b ∈ fp, H' b = none) → ∀ b ∈ fp, FpOk X (pins ++ zaX [p] h) H' b := fun hn b hb => zi9 ⟨hn b hb, (hf b hb).2⟩ (nep b hb)
 have loop : codeAny (model X.prog X.w) X.A (.compLoop (.SetComp elt [⟨t0, i0, f0, 0⟩, ⟨t1, i1, f1, 0⟩] scope pos) 1 (.ref it) (.ref p) X.env) (fun r s' => r = .ok .next ∧ ∃ σ' zs H', Inv X pins σ' H' s' ∧ FpOk X pins H' p ∧ TxSet X.prog X.w s'.heap p zs ∧ M σ' zs H') s := by
  refine zkI (fun n s' => ∃ i σ' ys H', Inv X pins σ' H' s' ∧ tn i s'.heap ∧ (∀ b ∈ fp, H' b = none) ∧ FpOk X pins H' p ∧ TxSet X.prog X.w s'.heap p ys ∧ W i n σ' ys H') ?_ m0 ⟨0, σ, ks, H, I, st, fun b hb => (hf b hb).1, fp0, Tx, w0⟩
  rintro n s5 ⟨i, σ5, zs, H5, I5, st5, fr5, fp5, T5, w5⟩
  have I5p := zfQ I5 fp5 T5
  rcases turn i n σ5 zs H5 w5 with ⟨stop, qn⟩ | ⟨go, hz, step⟩
  · refine thn (T.done X rfl rfl rfl hc i _ s5 σ5 H5 (fun _ _ => False) I5p (stat fr5) st5 stop) fun r s6 ⟨hr, I6⟩ => ?_
    subst hr
    obtain ⟨I6', f6, T6⟩ := zc8 I6 fp5 T5
    exact ⟨rfl, σ5, zs, H5, I6', f6, T6, qn⟩
  · refine thn (T.item X rfl rfl rfl hc i _ s5 σ5 H5 (fun _ _ => False) I5p (stat fr5) st5 go) fun r s6 ⟨u, hr, h6⟩ => ?_
    subst hr
    refine thn h6 fun _ s7 ⟨x, H7, I7, r7, y7, st7, fr7⟩ => ?_
    have I7' := I7.pinned (stat fr7) (T.obj _ _ st7)
    have G := hg _ s7 σ5 H7 x u _ I7' r7 (step x H7 y7)
    rw [hx] at G
    refine thn G fun _ s8 ⟨σ8, H8, I8, q8⟩ => ?_
    have Tt := ht _ s8 σ8 H8 _ I8 q8
    rw [hx] at Tt
    refine thn Tt fun b s9 ⟨H9, I9, q9⟩ => ?_
    have again : ∀ {s' : Shared} {H' : Hp}, Inv X (pins ++ zaX [p] s5.heap ++ zaX fp s7.heap) σ8 H' s' → tn (i + 1) s'.heap ∧ (∀ b ∈ fp, H' b = none) ∧ Inv X pins σ8 H' s' ∧ FpOk X pins H' p ∧ TxSet X.prog X.w s'.heap p zs := fun {s' H'} I' => by
     obtain ⟨a1, a2, a3⟩ := zc8 I'.unpinned fp5 T5
     refine ⟨T.keep _ _ _ st7 fun b hb o e => (I'.pin (b, o) (List.mem_append_right _ (List.mem_append_right _ (zaB hb e)))).1, fun b hb => ?_, a1, a2, a3⟩
     obtain ⟨o, e, d⟩ := T.obj _ _ st7 b hb
     exact (I'.pin (b, o) (List.mem_append_right _ (List.mem_append_right _ (zaB hb e)))).2.1
    cases b with
    | false =>
     obtain ⟨m', hm, w'⟩ := q9
     obtain ⟨a1, a2, a3, a4, a5⟩ := again I9
     exact ⟨m', hm, i + 1, σ8, zs, H9, a3, a1, a2, a4, a5, w'⟩
    | true =>
     have Ee := he _ s9 σ8 H9 _ I9 q9
     rw [hx] at Ee
     show wpAny _ _ _ _ _ _
     refine thn Ee fun xv s10 ⟨y, H10, I10, r10, k, hk, q10⟩ => ?_
     subst hk
     obtain ⟨tk, rfl⟩ := (show ∃ t, xv = Value.str k t from r10)
     obtain ⟨a1, a2, a3, a4, a5⟩ := again I10
     refine ze6 a5 (by unfold scanBound; omega) fun h' zs' sb T' l m => ?_
     obtain ⟨m', hm, w'⟩ := q10 zs' l m T'.nodup
     obtain ⟨g0, g1', g2, g3, g4, g5⟩ := a4
     refine ⟨m', hm, i + 1, σ8, zs', H10, a3.turned (t' := s10.toks + 1) (fun b o hb e => (sb.2 b hb).trans e) g0 g1' g3 g4 g5, T.keep _ _ _ a1 fun b hb o e => (sb.2 b (nep b hb)).trans e, a2, ⟨g0, g1', g2, g3, g4, g5⟩, T', w'⟩
 exact zir 1 (.inr rfl) loop (T.self _ 0 _ _ _ st loop)
end
section
variable {X : Cx} {tg iter tg1 iter1 elt : Expr} {ifs ifs1 : List Expr} {wi wi1 : TI} {js : Cap} {g g1 : TG} {tc tc1 : TT} {te : TE} {N' : List Str} {scope : Scope} {pos : Pos}
theorem ziq {pins : List (Addr × Obj)} {σ : St} {H : Hp} {s : Shared} {E : Value → Shared → Prop} {M : List Str → Hp → Prop} {J : It} {it : Addr} {fp : List Addr} {tn : Nat → Heap → Prop} {cl : List (Str × Addr)}
 (hc : X.calm = true) (ok : CapOk X N' js scope) (hs1 : ∀ (e : Env) x, foldedSetIterable iter1 e x = pure x)
 (h2 : ∀ x c, cl.lookup x = some c → X.env.cells.lookup x = some c) (h3 : ∀ p ∈ scope.names, p.2 = .free → (cl.lookup p.1).isSome = true)
 (hg : ∀ cl C s₀ H₀ ex, PG (lcx X N' scope cl C s₀ H₀ ex) tg g) (ht : ∀ cl C s₀ H₀ ex, PIfs (lcx X N' scope cl C s₀ H₀ ex) ifs tc) (hi1 : ∀ cl C s₀ H₀ ex, PI (lcx X N' scope cl C s₀ H₀ ex) tg1 iter1 wi1) (hg1 : ∀ cl C s₀ H₀ ex, PG (lcx X N' scope cl C s₀ H₀ ex) tg1 g1) (ht1 : ∀ cl C s₀ H₀ ex, PIfs (lcx X N' scope cl C s₀ H₀ ex) ifs1 tc1) (he : ∀ cl C s₀ H₀ ex, PE (lcx X N' scope cl C s₀ H₀ ex) elt te)
 (I : Inv X pins σ H s) (T : Turn X.prog X.w X.K tg J fp it tn) (st : tn 0 s.heap) (hf : ∀ b ∈ fp, FpOk X pins H b)
 (hw : zg5 J js g tc wi1 g1 tc1 te σ H M) :
 wpAny (model X.prog X.w) X.A (newSet (.type "set")) (fun acc s₃ => wpAny (model X.prog X.w) X.A (newFunctionEnv scope X.env.globals cl [] X.env.qual none .none (some X.env)) (fun cenv s₄ =>
  codeAny (model X.prog X.w) X.A (.compStart (.SetComp elt [⟨tg, iter, ifs, 0⟩, ⟨tg1, iter1, ifs1, 0⟩] scope pos) 0 (.ref it) acc { cenv with scope := relabel scope X.env })
   (fun r s' => r = .ok .next ∧ (∃ m, s'.heap.Ns cenv.locals m) ∧ ∃ p ks H', acc = .ref p ∧ p ≠ cenv.locals ∧ Inv X pins σ H' s' ∧ FpOk X pins H' cenv.locals ∧ TxSet X.prog X.w s'.heap p ks ∧ M ks H') s₄) E s₃) E s := by
 have objs := T.obj _ _ st
 refine ziH ?_
 obtain ⟨W, ⟨m0, w0⟩, turn⟩ := hw
 have fpP : FpOk X pins H s.heap.objs.size := I.fpOk (Nat.le_refl _) (I.hok.fresh (Nat.le_refl _))
 have kp : ∀ b u, s.heap.get? b = some u → (s.heap.push { cls := .type "set", dict := none, data := .set #[] 0 (.fresh 0 0 (!byTx X.w)) }).get? b = some u := fun b u e => Heap.get?_push_of_some _ e
 have T3 : TxSet X.prog X.w (s.heap.push { cls := .type "set", dict := none, data := .set #[] 0 (.fresh 0 0 (!byTx X.w)) }) s.heap.objs.size [] := zhA (Heap.get?_push_size s.heap rfl)
 have lt0 : s.heap.objs.size < (s.heap.push { cls := .type "set", dict := none, data := .set #[] 0 (.fresh 0 0 (!byTx X.w)) }).objs.size := Heap.lt_size (Heap.get?_push_size s.heap (o := { cls := .type "set", dict := none, data := .set #[] 0 (.fresh 0 0 (!byTx X.w)) }) rfl)
 have I3 : Inv X pins σ H { s with heap := s.heap.push { cls := .type "set", dict := none, data := .set #[] 0 (.fresh 0 0 (!byTx X.w)) } } := I.kept (t' := s.toks) kp
 generalize hp : s.heap.objs.size = p at *
 have fne : ∀ b ∈ fp, b ≠ p := fun b hb => by
  obtain ⟨o, e, _⟩ := objs b hb
  have := Heap.lt_size e
  rw [← hp]
  exact Nat.ne_of_lt this
 have hf3 : ∀ b ∈ p :: fp, FpOk X pins H b := fun b hb => (List.mem_cons.mp hb).elim (fun z => z ▸ fpP) (hf b)
 have st3 : tn 0 (s.heap.push { cls := .type "set", dict := none, data := .set #[] 0 (.fresh 0 0 (!byTx X.w)) }) := T.keep _ _ _ st fun b _ o e => kp b o e
 have lt3 : ∀ b ∈ p :: fp, b < (s.heap.push { cls := .type "set", dict := none, data := .set #[] 0 (.fresh 0 0 (!byTx X.w)) }).objs.size := fun b hb => by
  rcases List.mem_cons.mp hb with rfl | hb
  · exact lt0
  · obtain ⟨o, e, _⟩ := objs b hb
    exact Heap.lt_size (kp b o e)
 generalize hs3 : ({ s with heap := s.heap.push { cls := .type "set", dict := none, data := .set #[] 0 (.fresh 0 0 (!byTx X.w)) } } : Shared) = s3 at *
 have eh : s.heap.push { cls := .type "set", dict := none, data := .set #[] 0 (.fresh 0 0 (!byTx X.w)) } = s3.heap := by rw [← hs3]
 rw [eh] at st3 lt3 T3 lt0
 refine wpAny_newFunctionEnv ok.ncell (by intro y hy; simp at hy) (fun h₁ hns₁ hsb₁ => ?_) ok.kind
 try dsimp only at hns₁ hsb₁ ⊢
 have k4 : ∀ b u, s3.heap.get? b = some u → h₁.get? b = some u := fun b u e => (hsb₁.2 b (Nat.ne_of_lt (Heap.lt_size e))).trans (Heap.get?_push_of_some _ e)
 have I4 := zc7 (cl := cl) (h₁ := h₁) (t' := s3.toks + ([] : List (Str × Value)).length) ok I3 h2 h3 hf3 lt3 k4 ⟨_, hns₁⟩
 have T4 : TxSet X.prog X.w h₁ p [] := T3.kept fun o e => k4 p o e
 have st4 : tn 0 h₁ := T.keep _ _ _ st3 fun b _ o e => k4 b o e
 generalize hX : lcx X N' scope cl s3.heap.objs.size s3 H (p :: fp) = X' at I4
 have hg' : PG X' tg g := by rw [← hX]; exact hg _ _ _ _ _
 have ht' : PIfs X' ifs tc := by rw [← hX]; exact ht _ _ _ _ _
 have he' : PE X' elt te := by rw [← hX]; exact he _ _ _ _ _
 have hi1' : PI X' tg1 iter1 wi1 := by rw [← hX]; exact hi1 _ _ _ _ _
 have hg1' : PG X' tg1 g1 := by rw [← hX]; exact hg1 _ _ _ _ _
 have ht1' : PIfs X' ifs1 tc1 := by rw [← hX]; exact ht1 _ _ _ _ _
 have hs1' : ∀ x, foldedSetIterable iter1 (compEnvC scope cl s3.heap.objs.size X.env) x = pure x := hs1 _
 have eP : X'.prog = X.prog := by rw [← hX]; rfl
 have ew : X'.w = X.w := by rw [← hX]; rfl
 have eK : X'.K = X.K := by rw [← hX]; rfl
 have ec : X'.calm = true := by rw [← hX]; exact hc
 have eA : X'.A = X.A := by rw [← hX]; rfl
 have ex : X'.xe = fun _ _ => False := by rw [← hX]; rfl
 have eE : X'.env = compEnvC scope cl s3.heap.objs.size X.env := by rw [← hX]; rfl
 have eEx : X'.ex = p :: fp := by rw [← hX]; rfl
 have eN : X'.pn = [] := by rw [← hX]; rfl
 have stat : ∀ {H' : Hp} {b : Addr}, b ∈ p :: fp → H' b = none → FpOk X' [] H' b := fun {H' b} hb hn => by
  have okc := I4.ok
  refine ⟨hn, (okc.exf b (by rw [eEx]; exact hb)).1, okc.exfs b (by rw [eEx]; exact hb), .inl (by rw [eEx]; exact hb), (okc.exf b (by rw [eEx]; exact hb)).2, fun q hq => ?_⟩
  rw [eN] at hq
  cases hq
 have loop : ∀ s₄ : Shared, s₄ = { s3 with heap := h₁, toks := s3.toks + ([] : List (Str × Value)).length } →
  codeAny (model X.prog X.w) X.A (.compLoop (.SetComp elt [⟨tg, iter, ifs, 0⟩, ⟨tg1, iter1, ifs1, 0⟩] scope pos) 0 (.ref it) (.ref p) (compEnvC scope cl s3.heap.objs.size X.env))
   (fun r s' => r = .ok .next ∧ (∃ m, s'.heap.Ns s3.heap.objs.size m) ∧ ∃ p' ks H', Value.ref p = .ref p' ∧ p' ≠ s3.heap.objs.size ∧ Inv X pins σ H' s' ∧ FpOk X pins H' s3.heap.objs.size ∧ TxSet X.prog X.w s'.heap p' ks ∧ M ks H') s₄ := by
  rintro s₄ rfl
  have wpin : ∀ {h : Heap} {H' : Hp}, (∀ b ∈ fp, H' b = none) → ∀ b ∈ fp, FpOk X' ([] ++ zaX [p] h) H' b := fun {h H'} hn b hb => zi9 (stat (List.mem_cons_of_mem _ hb) (hn b hb)) (fne b hb)
  refine zkJ hs1' (fun n s' => ∃ i σ' ys H', Inv X' [] σ' H' s' ∧ tn i s'.heap ∧ (∀ b ∈ fp, H' b = none) ∧ FpOk X' [] H' p ∧ TxSet X'.prog X'.w s'.heap p ys ∧ W i n σ' ys H') ?_ m0 ⟨0, _, [], _, I4, st4, fun b hb => (hf b hb).1, stat List.mem_cons_self fpP.1, by rw [eP, ew]; exact T4, w0⟩
  rintro n s5 ⟨i, σ5, ys, H5, I5, st5, fr5, fp5, T5, w5⟩
  have I5p := zfQ I5 fp5 T5
  rcases turn i n σ5 ys H5 w5 with ⟨stop, qn⟩ | ⟨go, step⟩
  · have D := T.done X' eP ew eK ec i _ s5 σ5 H5 (fun _ _ => False) I5p (wpin fr5) st5 stop
    rw [eA] at D
    refine thn D fun r s6 ⟨hr, I6p⟩ => ?_
    subst hr
    obtain ⟨I6, f6, T6⟩ := zc8 I6p fp5 T5
    refine ⟨rfl, ?_, p, ys, H5, rfl, Nat.ne_of_lt lt0, ?_, ?_, by rw [eP, ew] at T6; exact T6, qn⟩
    · obtain ⟨m, hm, _⟩ := I6.loc
      rw [eE] at hm
      exact ⟨m, hm⟩
    · have b6 := I6.base
      have ho := I6.os
      have hk := I6.hok
      have hb := I6.bare
      subst hX
      exact I3.call' (ch := p :: fp) ho b6 hk hb fun b hb' => ⟨(hf3 b hb').2.2.2.1, (hf3 b hb').2.1, (hf3 b hb').2.2.2.2.1, (hf3 b hb').2.2.2.2.2⟩
    · have fr := I6.free
      rw [eE] at fr
      exact I3.fpOk (Nat.le_refl _) fr
  · have D := T.item X' eP ew eK ec i _ s5 σ5 H5 (fun _ _ => False) I5p (wpin fr5) st5 go
    rw [eA] at D
    refine thn D fun r s6 ⟨u, hr, h6⟩ => ?_
    subst hr
    refine thn h6 fun _ s7 ⟨x, H7, I7, r7, y7, st7, fr7⟩ => ?_
    have I7' := I7.pinned (wpin fr7) (T.obj _ _ st7)
    have G := hg' _ s7 σ5 H7 x u _ I7' r7 (step x H7 y7)
    rw [eP, ew, eA, ex, eE] at G
    refine thn G fun _ s8 ⟨σ8, H8, I8, q8⟩ => ?_
    have Tt := ht' _ s8 σ8 H8 _ I8 q8
    rw [eP, ew, eA, ex, eE] at Tt
    refine thn Tt fun b s9 ⟨H9, I9, q9⟩ => ?_
    have again : ∀ {s' : Shared} {σ8 : St} {ys' : List Str} {H' : Hp}, Inv X' ([] ++ zaX fp s7.heap) σ8 H' s' → FpOk X' [] H' p → TxSet X'.prog X'.w s'.heap p ys' → (∃ m', m' < n ∧ W (i + 1) m' σ8 ys' H') →
     ∃ m, m < n ∧ ∃ i σ' ys H', Inv X' [] σ' H' s' ∧ tn i s'.heap ∧ (∀ b ∈ fp, H' b = none) ∧ FpOk X' [] H' p ∧ TxSet X'.prog X'.w s'.heap p ys ∧ W i m σ' ys H' := fun {s' σ8 ys' H'} I' f' T' ⟨m', hm, w'⟩ => by
     refine ⟨m', hm, i + 1, σ8, ys', H', I'.unpinned, T.keep _ _ _ st7 fun b hb o e => (I'.pin (b, o) (List.mem_append_right _ (List.mem_append_right _ (zaB hb e)))).1, fun b hb => ?_, f', T', w'⟩
     obtain ⟨o, e, d⟩ := T.obj _ _ st7 b hb
     exact (I'.pin (b, o) (List.mem_append_right _ (List.mem_append_right _ (zaB hb e)))).2.1
    have drop : ∀ {s' : Shared} {σ8 : St} {H' : Hp}, Inv X' ([] ++ zaX [p] s5.heap ++ zaX fp s7.heap) σ8 H' s' → Inv X' ([] ++ zaX fp s7.heap) σ8 H' s' ∧ FpOk X' [] H' p ∧ TxSet X'.prog X'.w s'.heap p ys := fun {s' σ8 H'} I' => by
     obtain ⟨a1, a2, a3⟩ := zc8 I'.unpinned fp5 T5
     exact ⟨I'.pins_of fun q hq => I'.pin q (List.mem_append_right _ ((List.mem_append.mp hq).elim (fun z => nomatch z) fun z => List.mem_append_right _ z)), a2, a3⟩
    cases b with
    | false =>
     obtain ⟨a1, a2, a3⟩ := drop I9
     exact again a1 a2 a3 q9
    | true =>
     have Ei := hi1' _ s9 σ8 H9 _ I9 q9
     rw [eP, ew, eA, ex, eE] at Ei
     show wpAny _ _ _ _ _ _
     refine thn Ei fun xv s10 h10 => thn h10 fun itv s11 h11 => ?_
     obtain ⟨it1, fp1, tn1, J1, H11, e11, I11, T1, st11, f11, hw11⟩ := h11
     subst e11
     obtain ⟨a1, a2, a3⟩ := drop I11
     obtain ⟨o5, ho5, _⟩ := zes T5
     have npp : p ∉ fp1 := fun hb => (f11 p hb).2.2.2.2.2 (p, o5) (List.mem_append_right _ (List.mem_append_left _ (List.mem_append_right _ (zaB (List.mem_singleton.mpr rfl) ho5)))) rfl
     have f11' : ∀ b ∈ fp1, FpOk X' ([] ++ zaX fp s7.heap) H11 b := fun b hb => by
      obtain ⟨g0, g1', g2, g3, g4, g5⟩ := f11 b hb
      refine ⟨g0, g1', g2, g3, g4, fun q hq => g5 q ?_⟩
      rcases List.mem_append.mp hq with z | z
      · exact List.mem_append_left _ z
      · exact List.mem_append_right _ ((List.mem_append.mp z).elim (fun z => nomatch z) fun z => List.mem_append_right _ z)
     have a2' : FpOk X' ([] ++ zaX fp s7.heap) H11 p := by
      obtain ⟨g0, g1', g2, g3, g4, g5⟩ := a2
      refine ⟨g0, g1', g2, g3, g4, fun q hq => ?_⟩
      rcases List.mem_append.mp hq with z | z
      · exact g5 q (List.mem_append_left _ z)
      · have := (zd1 ((List.mem_append.mp z).elim (fun z => nomatch z) id)).1
        exact fne _ this
     have In := zi3 (X := X') (elt := elt) (t0 := tg) (i0 := iter) (t1 := tg1) (i1 := iter1) (f0 := ifs) (f1 := ifs1) (scope := scope) (pos := pos) ec ex hg1' ht1' he' a1 T1 st11 f11' npp a2' a3 hw11
     rw [eP, ew, eA, eE] at In
     refine codeAny_mono In fun r s12 ⟨hr, σ12, zs, H12, I12, f12, T12, m12⟩ => ⟨hr, ?_⟩
     exact again I12 (stat List.mem_cons_self f12.1) (by rw [eP, ew]; exact T12) m12
 exact zir 0 (.inl rfl) (loop _ rfl) (T.self _ 0 _ _ _ st4 (loop _ rfl))
def zjC (wi : TI) (js : Cap) (g : TG) (tc : TT) (wi1 : TI) (g1 : TG) (tc1 : TT) (te : TE) : TE := fun σ H Q => wi σ H fun J H1 => zg5 J js g tc wi1 g1 tc1 te σ H1 fun ks H2 => ks.length < 64 ∧
 ∀ (p : Addr) (ms : List Str), ms.Perm ks → ms.Nodup → sortedS ms = true → H2 p = none → Q (.ref p) (upd H2 p (.lst (ms.map V.str)))
theorem zhJ {p4 pos' : Pos} (hg0 : Gl X "sorted") (hm0 : X.mg "sorted" = none) (hc : X.calm = true) (ok : CapOk X N' js scope) (hi : PI X tg iter wi)
 (hg : ∀ cl C s₀ H₀ ex, PG (lcx X N' scope cl C s₀ H₀ ex) tg g) (ht : ∀ cl C s₀ H₀ ex, PIfs (lcx X N' scope cl C s₀ H₀ ex) ifs tc) (hi1 : ∀ cl C s₀ H₀ ex, PI (lcx X N' scope cl C s₀ H₀ ex) tg1 iter1 wi1) (hg1 : ∀ cl C s₀ H₀ ex, PG (lcx X N' scope cl C s₀ H₀ ex) tg1 g1) (ht1 : ∀ cl C s₀ H₀ ex, PIfs (lcx X N' scope cl C s₀ H₀ ex) ifs1 tc1) (he : ∀ cl C s₀ H₀ ex, PE (lcx X N' scope cl C s₀ H₀ ex) elt te)
 (hs : ∀ x, foldedSetIterable iter X.env x = pure x := by intro _; rfl) (hs1 : ∀ (e : Env) x, foldedSetIterable iter1 e x = pure x := by intro _ _; rfl)
 (h2 : starEach [.SetComp elt [⟨tg, iter, ifs, 0⟩, ⟨tg1, iter1, ifs1, 0⟩] scope pos'] X.env = (false, eval (.SetComp elt [⟨tg, iter, ifs, 0⟩, ⟨tg1, iter1, ifs1, 0⟩] scope pos') X.env) :: starEach [] X.env := by rfl)
 (h4 : (backTo pos (starEach [] X.env)).any (·.1) = false := by rfl) :
 PE X (.Call (.Name "sorted" p4) [.SetComp elt [⟨tg, iter, ifs, 0⟩, ⟨tg1, iter1, ifs1, 0⟩] scope pos'] [] pos) (zjC wi js g tc wi1 g1 tc1 te) := by
 intro pins s σ H Q I h
 refine wpAny_Call_Name_kw (zc6 I hg0 hm0 zea ?_ (by decide) (by decide))
 refine PyProof.Rows.callWith_builtin1 ?_ h2 h4
 rw [h2]
 show wpAny _ _ (spliced ((false, eval (.SetComp elt [⟨tg, iter, ifs, 0⟩, ⟨tg1, iter1, ifs1, 0⟩] scope pos') X.env) :: backTo pos (starEach [] X.env))) _ _ s
 refine Calls.spliced_cons ?_
 obtain ⟨cl, c1, c2, c3⟩ := zd9 (scope := scope) I.ok.has ok.free
 rw [arm_eval_SetComp]
 refine wpAny_comprehension_free (use := none) rfl hs c1 ok.kind ok.names (thn (hi pins s σ H _ I h) fun v s1 h1 => thn h1 fun itv s2 h2 => ?_)
 obtain ⟨it, fp, tn, J, H2, e, I2, T, st2, f2, hw⟩ := h2
 subst e
 refine wpAny_mono (ziq (iter := iter) (pos := pos') hc ok hs1 c2 c3 hg ht hi1 hg1 ht1 he I2 T st2 f2 hw) (fun acc s3 h3 => wpAny_mono h3 (fun cenv s4 h4 => ?_) fun _ _ z => z) fun _ _ z => z
 refine codeAny_mono h4 fun r s5 h5 => ?_
 obtain ⟨rfl, ⟨m, hm⟩, p, ks, H5, rfl, npl, I5, f5, T5, h64, q5⟩ := h5
 refine ⟨m, hm, fun h' sb => ?_⟩
 obtain ⟨f0, f1, _, f3, f4, f6⟩ := f5
 have I6 : Inv X pins σ H5 { s5 with heap := h', toks := s5.toks } := I5.turned (t' := s5.toks) (fun b o hb e => (sb.2 b hb).trans e) f0 f1 f3 f4 f6
 have T6 : TxSet X.prog X.w h' p ks := T5.kept fun o e => (sb.2 p npl).trans e
 refine Calls.spliced_nil ?_
 refine zgn (s := { s5 with heap := h' }) (I.ok.hd hc) T6 h64 fun p' h2 d2 tk2 out ms ee a1 a2 a3 a4 a5 a6 => ?_
 have hn1 : H5 p' = none := I6.hok.fresh a4
 have I7 : Inv X pins σ H5 { s5 with heap := h', drawn := d2, toks := s5.toks } := ⟨I6.ok, I6.os, I6.bare, I6.base, I6.loc, I6.cell, I6.free, I6.freeC, I6.pin, I6.hok, I6.len⟩
 refine ⟨.ref p', upd H5 p' (.lst (ms.map V.str)), I7.laid (t' := tk2) a6 a4 ?_, rfl, q5 p' ms a2 (a2.nodup_iff.mpr T6.nodup) a3 hn1⟩
 have hlen : ms.length < 64 := by rw [a2.length_eq]; exact h64
 exact ⟨by rw [List.length_map, sizeLine_eq]; omega, out.toList, ee, zbD a1, by simpa [seqObj] using a5⟩
end
open PySem.AutoSeq1 (wpAny_loadPart')
theorem zjc (l : Addr) (xs : Array Value) :
 Meets (Builtin.«enumerate.__new__» ⟨[.type "enumerate", .ref l], []⟩) (fun _ R s => s.heap.IsTuple l xs ∧ R (.ok (.ret (.ref (s.heap.push { cls := .type "tuple_iterator", data := .fields #[.ref l, .int 0 0] }).objs.size)))
  { s with heap := (s.heap.push { cls := .type "tuple_iterator", data := .fields #[.ref l, .int 0 0] }).push { cls := .type "enumerate", data := .fields #[.none, .bool false, .ref s.heap.objs.size, rawInt 0, .none, .none] } }) :=
 .of_wp fun prog w A R s h => by
  obtain ⟨hp, g, d, tk, os⟩ := s
  have f0 := sub_enumerate
  have f1 : Heap.IsTuple (Shared.heap ⟨hp, g, d, tk, os⟩) l xs := h.1
  wp_walk
  refine wpAny_stack_any fun st => wpAny_pure ?_
  split
  · rename_i c _ _ _ _ _
    by_cases hc : (c == Value.type "enumerate") = true
    · rw [hc]
      wp_walk using wpAny_pyIter_tuple f1
      exact ⟨_, rfl, h.2⟩
    · have hc' : (c == Value.type "enumerate") = false := by simpa using hc
      rw [hc']
      wp_walk using wpAny_pyIter_tuple f1
      exact ⟨_, rfl, h.2⟩
  · wp_walk using wpAny_pyIter_tuple f1
    exact ⟨_, rfl, h.2⟩
section
variable {prog : Program} {w : World} {A : Around} {E : Value → Shared → Prop} {s : Shared} {it l e : Addr} {i : Nat} {xs : Array Value} {x old : Value}
theorem zkW {Q : Value → Shared → Prop} (hi : s.heap.IsTupleIter it l i) (hl : s.heap.IsTuple l xs) (hx : xs[i]? = some x)
 (q : ∀ h', h'.IsTupleIter it l (i + 1) → Heap.SameBut it s.heap h' → Q x { s with heap := h' }) : wpAny (model prog w) A (Builtin.SmallTypes.nextOf (.ref it)) Q E s := by
 obtain ⟨o, h1, h2, h3⟩ := id hi
 obtain ⟨u, g1, _, n, g2⟩ := hl
 unfold Builtin.SmallTypes.nextOf
 refine wpAny_bind (wpAny_callSpecial?_slot (name := Str.ofString "__next__") hi.typeIs PySem.F.slot_tuple_iterator_next (wpAny_call_entry PySem.F.slot_tuple_iterator_next hi.typeIs PySem.F.entry_tuple_iterator_next ?go (PySem.F.args_tuple_iterator_next_1 _)))
 case go =>
  show wpAny _ _ (field (Value.ref it) 0 >>= _) _ _ s
  refine wpAny_bind (wpAny_field h1 h3 (x := .ref l) rfl ?_)
  rw [if_neg (by intro z; cases z)]
  show wpAny _ _ (field (Value.ref it) 1 >>= _) _ _ s
  refine wpAny_bind (wpAny_field h1 h3 (x := .int i 0) rfl ?_)
  show wpAny _ _ (seqItems? (Value.ref l) >>= _) _ _ s
  refine wpAny_bind (wpAny_seqItems g1 g2 ?_)
  simp only [Int.toNat_natCast, hx]
  refine wpAny_bind (wpAny_setField h1 h3 (by simp) (wpAny_pure ⟨x, rfl, wpAny_pure (q _ ⟨_, Heap.get?_update_self _ h1 (Obj.isFreed_of_fields (Obj.data_mapFields h3 _)), (Obj.cls_mapFields ..).trans h2, ?_⟩ (Heap.SameBut.update ..))⟩))
  rw [Obj.data_mapFields h3]
  simp [rawInt]
theorem zgL {Q : Value → Shared → Prop} (hh : A.handled = none) (hi : s.heap.IsTupleIter it l i) (hl : s.heap.IsTuple l xs) (hx : xs[i]? = none)
 (q : ∀ h' e, Heap.ExtBut it s.heap h' → (∃ o, h'.get? e = some o ∧ o.cls = .type "StopIteration") → E (.ref e) { s with heap := h' }) : wpAny (model prog w) A (Builtin.SmallTypes.nextOf (.ref it)) Q E s := by
 obtain ⟨o, h1, h2, h3⟩ := id hi
 obtain ⟨u, g1, _, n, g2⟩ := hl
 unfold Builtin.SmallTypes.nextOf
 refine wpAny_bind (wpAny_callSpecial?_slot (name := Str.ofString "__next__") hi.typeIs PySem.F.slot_tuple_iterator_next (wpAny_call_entry PySem.F.slot_tuple_iterator_next hi.typeIs PySem.F.entry_tuple_iterator_next ?go (PySem.F.args_tuple_iterator_next_1 _)))
 case go =>
  show wpAny _ _ (field (Value.ref it) 0 >>= _) _ _ s
  refine wpAny_bind (wpAny_field h1 h3 (x := .ref l) rfl ?_)
  rw [if_neg (by intro z; cases z)]
  show wpAny _ _ (field (Value.ref it) 1 >>= _) _ _ s
  refine wpAny_bind (wpAny_field h1 h3 (x := .int i 0) rfl ?_)
  show wpAny _ _ (seqItems? (Value.ref l) >>= _) _ _ s
  refine wpAny_bind (wpAny_seqItems g1 g2 ?_)
  simp only [Int.toNat_natCast, hx]
  refine wpAny_bind (wpAny_rule (wpAny_bind (wpAny_setField h1 h3 (by simp) ?_)))
  show wpAny _ _ (newExc (Value.type "StopIteration") [] >>= _) _ _ _
  refine wpAny_bind ?_
  unfold newExc newTuple
  refine wpAny_bind (wpAny_newObj_type ?_ (by size_fits))
  refine wpAny_bind (m := firstArgMember _ _) (wpAny_of_eq (a := Value.none) (by first | rfl | (simp only [firstArgMember]; rfl)) ?_)
  refine wpAny_newObj_type ?_ (by size_fits)
  unfold raiseNew
  refine wpAny_bind (wpAny_handled ?_)
  first | rw [show A.in1.handled = none from hh] | rw [hh]
  exact wpAny_bind (wpAny_pure (wpAny_throw (q _ _ (((Heap.SameBut.update ..).extBut.push _).push _) ⟨_, Heap.get?_push_size _ rfl, rfl⟩)))
theorem zh1 {Q : Option Value → Shared → Prop} (he : IsEnum s.heap e it i old) (hi : s.heap.IsTupleIter it l i) (hl : s.heap.IsTuple l xs) (hx : xs[i]? = some x) (ne : e ≠ it)
 (q : ∀ h', IsEnumOut h' e it ((i : Int) + 1) x s.heap.objs.size → h'.IsTupleIter it l (i + 1) → h'.get? s.heap.objs.size = some { cls := .type "tuple", data := .seq #[.int i s.toks, x] } →
  (∀ b o, b ≠ e → b ≠ it → s.heap.get? b = some o → h'.get? b = some o) → Q (some (.ref s.heap.objs.size)) { s with heap := h', toks := s.toks + 1 }) :
 wpAny (model prog w) A (pyNext (.ref e)) Q E s := by
 have ty : s.TypeIs (.ref e) "enumerate" := ⟨_, he, rfl⟩
 unfold pyNext
 refine wpAny_bind (wpAny_attempt (wpAny_callSpecial?_slot (name := Str.ofString "__next__") ty PySem.F.slot_enumerate_next (wpAny_call_entry PySem.F.slot_enumerate_next ty PySem.F.entry_enumerate_next ?go (PySem.F.args_enumerate_next_1 _))))
 case go =>
  obtain ⟨hp, g, d, tk, os⟩ := s
  have lte : e < hp.objs.size := Heap.lt_size he
  have nT : hp.objs.size ≠ e := Nat.ne_of_gt lte
  show wpAny _ _ (field (Value.ref e) 2 >>= _) _ _ _
  refine wpAny_bind (wpAny_field he rfl (x := .ref it) rfl ?_)
  refine wpAny_bind (zkW hi hl hx fun k1 i1 b1 => ?_)
  replace b1 : Heap.SameBut it hp k1 := b1
  have e1 : IsEnum k1 e it i old := (b1.2 e ne).trans he
  show wpAny _ _ (field (Value.ref e) 3 >>= _) _ _ ⟨k1, g, d, tk, os⟩
  refine wpAny_bind (wpAny_field e1 rfl (x := rawInt i) rfl ?_)
  show wpAny _ _ (field (Value.ref e) 4 >>= _) _ _ ⟨k1, g, d, tk, os⟩
  refine wpAny_bind (wpAny_field e1 rfl (x := .none) rfl ?_)
  show wpAny _ _ (mkInt i >>= _) _ _ ⟨k1, g, d, tk, os⟩
  refine wpAny_bind (wpAny_mkInt ?_)
  show wpAny _ _ (setField (Value.ref e) 3 (rawInt ((i : Int) + 1)) >>= _) _ _ ⟨k1, g, d, tk + 1, os⟩
  refine wpAny_bind (wpAny_setField_rec e1 (by simp) fun k2 e2 b2 => ?_)
  replace b2 : Heap.SameBut e k1 k2 := b2
  replace e2 : IsEnum k2 e it ((i : Int) + 1) old := e2
  show wpAny _ _ (setField (Value.ref e) 4 .none >>= _) _ _ ⟨k2, g, d, tk + 1, os⟩
  refine wpAny_bind (wpAny_setField_rec e2 (by simp) fun k3 e3 b3 => ?_)
  replace b3 : Heap.SameBut e k2 k3 := b3
  replace e3 : IsEnum k3 e it ((i : Int) + 1) old := e3
  show wpAny _ _ (newTuple [.int i tk, x] >>= _) _ _ ⟨k3, g, d, tk + 1, os⟩
  refine wpAny_bind (wpAny_newTuple ?_)
  have z3 : k3.objs.size = hp.objs.size := by rw [b3.1, b2.1, b1.1]
  have k13 : ∀ b o, b ≠ e → k1.get? b = some o → k3.get? b = some o := fun b o n h => b3.extBut b o n (b2.extBut b o n h)
  have e4 : IsEnum (k3.push { cls := .type "tuple", data := .seq #[.int i tk, x] }) e it ((i : Int) + 1) old := Heap.get?_push_of_some _ e3
  have t4 : (k3.push { cls := .type "tuple", data := .seq #[.int i tk, x] }).get? hp.objs.size = some { cls := .type "tuple", data := .seq #[.int i tk, x] } := by rw [← z3]; exact Heap.get?_push_size _ rfl
  have k4 : ∀ b o, b ≠ e → k1.get? b = some o → (k3.push { cls := .type "tuple", data := .seq #[.int i tk, x] }).get? b = some o := fun b o n h => Heap.get?_push_of_some _ (k13 b o n h)
  show wpAny _ _ (Builtin.SmallTypes.ownedTupleIsFree (.ref e) >>= _) _ _ ⟨k3.push { cls := .type "tuple", data := .seq #[.int i tk, x] }, g, d, tk + 1, os⟩
  rw [z3]
  generalize k3.push { cls := .type "tuple", data := .seq #[.int i tk, x] } = h4 at *
  refine wpAny_bind ?_
  unfold Builtin.SmallTypes.ownedTupleIsFree
  refine wpAny_bind (wpAny_field e4 rfl (x := .none) rfl (wpAny_pure ?_))
  rw [if_pos rfl]
  refine wpAny_bind (wpAny_rule (wpAny_bind (wpAny_field e4 rfl (x := old) rfl (wpAny_bind (wpAny_setField_rec e4 (by simp) fun h5 e5 b5 => ?_)))))
  replace b5 : Heap.SameBut e h4 h5 := b5
  replace e5 : IsEnum h5 e it ((i : Int) + 1) x := e5
  show wpAny _ _ (Builtin.SmallTypes.ownedTupleHandOut (.ref e) (.ref hp.objs.size) >>= _) _ _ ⟨h5, g, d, tk + 1, os⟩
  refine wpAny_bind ?_
  unfold Builtin.SmallTypes.ownedTupleHandOut
  refine wpAny_bind (wpAny_setField_rec e5 (by simp) fun h6 e6 b6 => ?_)
  replace b6 : Heap.SameBut e h5 h6 := b6
  replace e6 : IsEnumOut h6 e it ((i : Int) + 1) x hp.objs.size := e6
  refine wpAny_setField_rec e6 (by simp) fun h7 e7 b7 => ?_
  replace b7 : Heap.SameBut e h6 h7 := b7
  replace e7 : IsEnumOut h7 e it ((i : Int) + 1) x hp.objs.size := e7
  have k7 : ∀ b o, b ≠ e → h4.get? b = some o → h7.get? b = some o := fun b o n h => b7.extBut b o n (b6.extBut b o n (b5.extBut b o n h))
  obtain ⟨oi, g1, g2⟩ := i1
  exact wpAny_bind (wpAny_letGo (wpAny_pure ⟨_, rfl, wpAny_pure (q h7 e7 ⟨oi, k7 _ _ ne.symm (k4 _ _ ne.symm g1), g2⟩ (k7 _ _ nT t4) fun b o n1 n2 h => k7 b o n1 (k4 b o n1 (b1.extBut b o n2 h)))⟩))
theorem zjd {Q : Option Value → Shared → Prop} (hh : A.handled = none) (he : IsEnum s.heap e it i old) (hi : s.heap.IsTupleIter it l i) (hl : s.heap.IsTuple l xs) (hx : xs[i]? = none)
 (q : ∀ h', Heap.ExtBut it s.heap h' → Q none { s with heap := h' }) : wpAny (model prog w) A (pyNext (.ref e)) Q E s := by
 have ty : s.TypeIs (.ref e) "enumerate" := ⟨_, he, rfl⟩
 unfold pyNext
 refine wpAny_bind (wpAny_attempt (wpAny_callSpecial?_slot (name := Str.ofString "__next__") ty PySem.F.slot_enumerate_next (wpAny_call_entry PySem.F.slot_enumerate_next ty PySem.F.entry_enumerate_next ?go (PySem.F.args_enumerate_next_1 _))))
 case go =>
  show wpAny _ _ (field (Value.ref e) 2 >>= _) _ _ _
  refine wpAny_bind (wpAny_field he rfl (x := .ref it) rfl (wpAny_bind (zgL hh hi hl hx fun h' x k ⟨o, g1, g2⟩ => ?_)))
  exact wpAny_bind (wpAny_isInstance (T := "StopIteration") (b := true) ⟨o, g1, g2⟩ isSubtype_stop (wpAny_pure (q _ k)))
end
def IteT (K : PySem.W.Frag) (a : Addr) : It :=
 ⟨fun k H => ∃ (xs : List V) (x : V), SqT K H a xs ∧ xs[k]? = some x,
  fun k H v H' => ∃ p, v = .ref p ∧ H p = none ∧ ∀ (xs : List V) (x : V), SqT K H a xs → xs[k]? = some x → H' = upd H p (.tup [.int k, x]),
  fun k H => ∃ (xs : List V), SqT K H a xs ∧ xs.length ≤ k⟩
theorem zhz {P : Program} {w : World} {K : PySem.W.Frag} {es : List Expr} {kk : Nat} {pos : Pos} (a e it : Addr) (D : e ≠ it) :
 Turn P w K (.Tuple es kk pos) (IteT K a) [e, it] e (fun k h => (∃ old, IsEnum h e it k old) ∧ h.IsTupleIter it a k) where
 mem := by simp
 obj := fun k h st c hc => by
  obtain ⟨⟨old, hz⟩, ⟨oi, ei, _, di⟩⟩ := st
  simp only [List.mem_cons, List.not_mem_nil, or_false] at hc
  rcases hc with rfl | rfl
  · exact ⟨_, hz, fun v e => by cases e⟩
  · exact ⟨oi, ei, fun v e => by rw [di] at e; cases e⟩
 keep := fun k h h' st kp => by
  obtain ⟨⟨old, hz⟩, ⟨oi, ei, ri⟩⟩ := st
  exact ⟨⟨old, kp e (by simp) _ hz⟩, ⟨oi, kp it (by simp) _ ei, ri⟩⟩
 item := by
  intro X hP hw hK hc k pins s σ H E I hf st hg
  subst hP hw hK
  obtain ⟨xs, x, q1, hx⟩ := hg
  obtain ⟨⟨old, hz⟩, h1⟩ := st
  obtain ⟨its1, r1, g1, _⟩ := I.tuple q1
  obtain ⟨u1, hu1, v1⟩ := r1.get hx
  have fz := hf e (by simp)
  have fi := hf it (by simp)
  refine zh1 hz h1 g1 (by simpa using hu1) D fun g a1 a2 a3 a5 => ?_
  refine ⟨_, rfl, wpAny_letOwnedTupleGo_enum a1 fun g' z' m' => ?_⟩
  have zT : e ≠ s.heap.objs.size := Nat.ne_of_lt (Heap.lt_size hz)
  have up : ∀ c o, c ≠ e → g.get? c = some o → g'.get? c = some o := fun c o hc e => m'.extBut c o hc e
  have fr : H s.heap.objs.size = none := I.hok.fresh (Nat.le_refl _)
  have I1 : Inv X pins σ (upd H s.heap.objs.size (.tup [.int k, x])) { s with heap := g', toks := s.toks + 1 } := by
   refine I.newTup (t' := s.toks + 1) [e, it] (fun c hc => ?_) (fun c o hc e => ?_) (Nat.le_refl _) ⟨[.int k s.toks, u1], .cons ⟨_, rfl⟩ (.cons v1 .nil), _, up _ _ zT.symm a3, rfl, rfl, _, rfl⟩
   · simp only [List.mem_cons, List.not_mem_nil, or_false] at hc
     rcases hc with rfl | rfl
     · exact fz
     · exact fi
   · simp only [List.mem_cons, List.not_mem_nil, or_false, not_or] at hc
     exact up c o hc.1 (a5 c o hc.1 hc.2 e)
  obtain ⟨oi, ei, ri⟩ := a2
  refine ⟨.ref s.heap.objs.size, _, I1, rfl, ⟨_, rfl, fr, fun xs' x' s1 e1 => ?_⟩, ⟨⟨_, z'⟩, ⟨oi, up _ _ D.symm ei, ri⟩⟩, fun c hc => ?_⟩
  · rw [I.tuple_inj s1 q1, hx] at e1
    cases e1
    rfl
  · have fc := hf c hc
    have : c ≠ s.heap.objs.size := by
     simp only [List.mem_cons, List.not_mem_nil, or_false] at hc
     obtain ⟨oi', ei', _⟩ := h1
     rcases hc with rfl | rfl
     · exact zT
     · exact Nat.ne_of_lt (Heap.lt_size ei')
    rw [zan this]
    exact fc.1
 done := by
  intro X hP hw hK hc k pins s σ H E I hf st hg
  subst hP hw hK
  obtain ⟨xs, q1, hend⟩ := hg
  obtain ⟨⟨old, hz⟩, h1⟩ := st
  obtain ⟨its1, r1, g1, _⟩ := I.tuple q1
  have l1 := r1.length
  refine zjd (I.ok.hd hc) hz h1 g1 (by simp; omega) fun g kp => ?_
  refine ⟨rfl, I.turnedN (t' := s.toks) [it] (fun c hc => ?_) (fun c o hc e => ?_)⟩
  · simp only [List.mem_cons, List.not_mem_nil, or_false] at hc
    subst hc
    exact hf c (by simp)
  · simp only [List.mem_cons, List.not_mem_nil, or_false] at hc
    exact kp c o hc e
 self := fun _ _ _ _ _ st h => by
  obtain ⟨⟨old, hz⟩, _⟩ := st
  exact wpAny_pyIter_enum hz h
section
variable {X : Cx}
def zlJ (K : PySem.W.Frag) (ta : TA) : TI := fun σ H R => ta σ H fun vs H1 => ∃ t, vs = [.ref t] ∧ (∃ xs, SqT K H1 t xs) ∧ R (IteT K t) H1
theorem zjM {es : List Expr} {kk : Nat} {tpos : Pos} {a : Expr} {ta : TA} {p pos : Pos} (hg : Gl X "enumerate") (hm : X.mg "enumerate" = none) (ha : PA X [a] ta)
 (he : starEach [a] X.env = (false, eval a X.env) :: starEach [] X.env := by rfl) (hpl : (backTo pos (starEach [] X.env)).any (·.1) = false := by rfl) :
 PI X (.Tuple es kk tpos) (.Call (.Name "enumerate" p) [a] [] pos) (zlJ X.K ta) := by
 intro pins s σ H R I h
 refine wpAny_Call_Name_kw (zc6 I hg hm zf1 ?_ (by decide) (by decide))
 refine PyProof.Rows.callWith_type1 (thn (ha pos pins s σ H _ I h) fun us s1 ⟨vs, H1, I1, r1, t, e, ⟨xs, q1⟩, q⟩ => ?_) he hpl
 subst e
 obtain ⟨u1, rfl, v1⟩ := zcR r1
 cases v1
 obtain ⟨its1, rv1, g0, _⟩ := I1.tuple q1
 refine callType_new PySem.F.called_enumerate (by decide) (PySem.F.typeCall_enumerate_1 _) (PySem.F.newCall_enumerate_1 _) (fun obj => PySem.F.args_object_init_2 obj _) PySem.F.entry_enumerate_new (zjc t its1.toArray) ⟨g0, ?_⟩
 generalize hh5 : ((s1.heap.push { cls := .type "tuple_iterator", data := .fields #[.ref t, .int 0 0] }).push { cls := .type "enumerate", data := .fields #[.none, .bool false, .ref s1.heap.objs.size, rawInt 0, .none, .none] }) = h5
 have y1 : (s1.heap.push { cls := .type "tuple_iterator", data := .fields #[.ref t, .int 0 0] }).objs.size = s1.heap.objs.size + 1 := Heap.size_push ..
 have k5 : ∀ c o, s1.heap.get? c = some o → h5.get? c = some o := fun c o e => by rw [← hh5]; exact Heap.get?_push_of_some _ (Heap.get?_push_of_some _ e)
 have e5 : IsEnum h5 (s1.heap.objs.size + 1) s1.heap.objs.size 0 .none := by
  have := Heap.get?_push_size (s1.heap.push { cls := .type "tuple_iterator", data := .fields #[.ref t, .int 0 0] }) (o := { cls := .type "enumerate", data := .fields #[.none, .bool false, .ref s1.heap.objs.size, rawInt 0, .none, .none] }) rfl
  rw [y1, hh5] at this
  exact this
 have e1 : h5.IsTupleIter s1.heap.objs.size t 0 := by rw [← hh5]; exact ⟨_, Heap.get?_push_of_some _ (Heap.get?_push_size _ rfl), rfl, rfl⟩
 have I2 : Inv X pins σ H1 { s1 with heap := h5 } := I1.kept (t' := s1.toks) k5
 have fp : ∀ c, s1.heap.objs.size ≤ c → FpOk X pins H1 c := fun c hc => I1.fpOk hc (I1.hok.fresh hc)
 show _ ∧ _
 rw [y1]
 refine ⟨⟨_, e5, rfl⟩, wpAny_pyIter_enum e5 ?_⟩
 refine ⟨_, _, _, _, H1, rfl, I2, zhz t _ _ (Nat.ne_of_gt (Nat.lt_succ_self _)), ⟨⟨_, e5⟩, e1⟩, fun c hc => fp c ?_, q⟩
 simp only [List.mem_cons, List.not_mem_nil, or_false] at hc
 rcases hc with rfl | rfl
 · exact Nat.le_succ _
 · exact Nat.le_refl _
end
theorem zja {K : PySem.W.Frag} {a : Addr} {xs : List V} {g : TG} {tb : TS} {D : Ends} {σ : St} {H : Hp} (Pv : Nat → St → Hp → Prop) (h0 : Pv 0 σ H) (hl : ∀ i σ H, i ≤ xs.length → Pv i σ H → SqT K H a xs)
 (hs : ∀ i x q σ H, xs[i]? = some x → H q = none → Pv i σ H → g (.ref q) σ (upd H q (.tup [.int i, x])) fun σ2 H2 => tb { D with nx := Pv (i + 1), ct := Pv (i + 1), bk := D.nx } σ2 H2) (hd : ∀ σ H, Pv xs.length σ H → D.nx σ H) :
 ∃ W : Nat → Nat → St → Hp → Prop, (∃ m, W 0 m σ H) ∧ ∀ i m σ H, W i m σ H →
  ((IteT K a).stop i H ∧ D.nx σ H) ∨ ((IteT K a).go i H ∧ ∃ N : St → Hp → Prop, (∀ σ' H', N σ' H' → ∃ m', m' < m ∧ W (i + 1) m' σ' H') ∧ ∀ x H', (IteT K a).yld i H x H' → g x σ H' fun σ2 H2 => tb { D with nx := N, ct := N, bk := D.nx } σ2 H2) := by
 refine ⟨fun i m σ H => m = xs.length - i ∧ i ≤ xs.length ∧ Pv i σ H, ⟨xs.length, by simp, Nat.zero_le _, h0⟩, ?_⟩
 rintro i m σ H ⟨rfl, hi, p⟩
 have q := hl i σ H hi p
 by_cases hlt : i < xs.length
 · have e1 : xs[i]? = some (xs[i]'hlt) := by simp
   refine .inr ⟨⟨xs, _, q, e1⟩, Pv (i + 1), fun σ' H' p' => ⟨xs.length - (i + 1), by omega, rfl, hlt, p'⟩, fun x H' y => ?_⟩
   obtain ⟨c, rfl, hc, y⟩ := y
   rw [y xs _ q e1]
   exact hs i _ c σ H e1 hc p
 · have e : i = xs.length := by omega
   subst e
   exact .inl ⟨⟨xs, q, Nat.le_refl _⟩, hd σ H p⟩
end L2
namespace L2
open PySem PySem.Spec PyProof.Rows
def below (s t : SPN) : List SPN := match t.1 with
 | none => []
 | some l => if s.1 = some l then [] else [(s.1, some (l - 1))]
def above (s t : SPN) : List SPN := match t.2 with
 | none => []
 | some h => if s.2 = some h then [] else [(some (h + 1), s.2)]
def zbK (s t : SPN) : List SPN := below s t ++ above s t
structure Within (s t : SPN) : Prop where
 lo : ∀ l, s.1 = some l → ∃ k, t.1 = some k ∧ l ≤ k
 hi : ∀ h, s.2 = some h → ∃ k, t.2 = some k ∧ k ≤ h
 le : leO t.1 t.2 = true
theorem zjv {s t r : SPN} (W : Within s t) (hr : r ∈ zbK s t) {n : Int} (h : inB r.1 r.2 n = true) : inB s.1 s.2 n = true ∧ inB t.1 t.2 n = false := by
 obtain ⟨a, b⟩ := s
 obtain ⟨c, d⟩ := t
 obtain ⟨w1, w2, w3⟩ := W
 unfold zbK below above at hr
 rcases List.mem_append.mp hr with z | z
 · cases c with
   | none => simp at z
   | some l =>
    by_cases e : a = some l
    · simp [e] at z
    · simp [e] at z
      subst z
      cases a with
      | none =>
       cases b with
       | none => cases d <;> simp [inB, loB, hiB] at h ⊢ <;> omega
       | some b =>
        obtain ⟨k, hk, hk2⟩ := w2 b rfl
        simp at hk
        subst hk
        simp [inB, loB, hiB, leO] at h w3 ⊢
        omega
      | some a =>
       obtain ⟨k0, hk0, hk02⟩ := w1 a rfl
       simp at hk0
       subst hk0
       cases b with
       | none => cases d <;> simp [inB, loB, hiB] at h ⊢ <;> omega
       | some b =>
        obtain ⟨k, hk, hk2⟩ := w2 b rfl
        simp at hk
        subst hk
        simp [inB, loB, hiB, leO] at h w3 ⊢
        omega
 · cases d with
   | none => simp at z
   | some u =>
    by_cases e : b = some u
    · simp [e] at z
    · simp [e] at z
      subst z
      cases b with
      | none =>
       cases a with
       | none => cases c <;> simp [inB, loB, hiB] at h ⊢ <;> omega
       | some a =>
        obtain ⟨k, hk, hk2⟩ := w1 a rfl
        simp at hk
        subst hk
        simp [inB, loB, hiB, leO] at h w3 ⊢
        omega
      | some b =>
       obtain ⟨k0, hk0, hk02⟩ := w2 b rfl
       simp at hk0
       subst hk0
       cases a with
       | none => cases c <;> simp [inB, loB, hiB] at h ⊢ <;> omega
       | some a =>
        obtain ⟨k, hk, hk2⟩ := w1 a rfl
        simp at hk
        subst hk
        simp [inB, loB, hiB, leO] at h w3 ⊢
        omega
theorem zjt {s t : SPN} (W : Within s t) {n : Int} (h : inB s.1 s.2 n = true) (h' : inB t.1 t.2 n = false) : ∃ r ∈ zbK s t, inB r.1 r.2 n = true := by
 obtain ⟨a, b⟩ := s
 obtain ⟨c, d⟩ := t
 obtain ⟨w1, w2, w3⟩ := W
 unfold zbK below above
 have : loB c n = false ∨ hiB d n = false := by
  unfold inB at h'
  cases e : loB c n with
  | false => exact .inl rfl
  | true => rw [e] at h'; exact .inr h'
 have ha : loB a n = true := ((Bool.and_eq_true _ _).mp h).1
 have hb : hiB b n = true := ((Bool.and_eq_true _ _).mp h).2
 rcases this with z | z
 · cases c with
   | none => simp [loB] at z
   | some l =>
    have e : a ≠ some l := fun e => by rw [e] at ha; rw [ha] at z; cases z
    refine ⟨(a, some (l - 1)), List.mem_append_left _ (by simp [e]), ?_⟩
    unfold inB
    rw [ha]
    simp [loB, hiB] at z ⊢
    omega
 · cases d with
   | none => simp [hiB] at z
   | some u =>
    have e : b ≠ some u := fun e => by rw [e] at hb; rw [hb] at z; cases z
    refine ⟨(some (u + 1), b), List.mem_append_right _ (by simp [e]), ?_⟩
    unfold inB
    rw [hb]
    simp [loB, hiB] at z ⊢
    omega
theorem zju {s t r : SPN} (W : Within s t) (hr : r ∈ zbK s t) : leO r.1 r.2 = true := by
 obtain ⟨a, b⟩ := s
 obtain ⟨c, d⟩ := t
 obtain ⟨w1, w2, w3⟩ := W
 unfold zbK below above at hr
 rcases List.mem_append.mp hr with z | z
 · cases c with
   | none => simp at z
   | some l =>
    by_cases e : a = some l
    · simp [e] at z
    · simp [e] at z
      subst z
      cases a with
      | none => rfl
      | some a =>
       obtain ⟨k0, hk0, hk02⟩ := w1 a rfl
       simp at hk0 e
       subst hk0
       simp [leO]
       omega
 · cases d with
   | none => simp at z
   | some u =>
    by_cases e : b = some u
    · simp [e] at z
    · simp [e] at z
      subst z
      cases b with
      | none => rfl
      | some b =>
       obtain ⟨k0, hk0, hk02⟩ := w2 b rfl
       simp at hk0 e
       subst hk0
       simp [leO]
       omega
theorem zbY (s t : SPN) : (zbK s t).length ≤ 2 := by
 obtain ⟨a, b⟩ := s
 obtain ⟨c, d⟩ := t
 unfold zbK below above
 rw [List.length_append]
 have h1 : (match c with | none => ([] : List SPN) | some l => if a = some l then [] else [(a, some (l - 1))]).length ≤ 1 := by
  cases c with
  | none => simp
  | some l => by_cases e : a = some l <;> simp [e]
 have h2 : (match d with | none => ([] : List SPN) | some h => if b = some h then [] else [(some (h + 1), b)]).length ≤ 1 := by
  cases d with
  | none => simp
  | some l => by_cases e : b = some l <;> simp [e]
 exact Nat.add_le_add h1 h2
theorem zhu {s u : SPN} (h : apart (mLo s.1 u.1) (mHi s.2 u.2) = false) : Within s (mLo s.1 u.1, mHi s.2 u.2) := by
 obtain ⟨a, b⟩ := s
 obtain ⟨c, d⟩ := u
 refine ⟨fun l e => ?_, fun l e => ?_, by rw [zfM, h]; rfl⟩
 · have e : a = some l := e
   subst e
   cases c with
   | none => exact ⟨l, rfl, Int.le_refl _⟩
   | some c => exact ⟨_, rfl, by split <;> omega⟩
 · have e : b = some l := e
   subst e
   cases d with
   | none => exact ⟨l, rfl, Int.le_refl _⟩
   | some c => exact ⟨_, rfl, by split <;> omega⟩
theorem zgb {s : SPN} (h : leO s.1 s.2 = true) : Within s s := ⟨fun l e => ⟨l, e, Int.le_refl _⟩, fun l e => ⟨l, e, Int.le_refl _⟩, h⟩
theorem zfa : ∀ (b a : List Str), a.Pairwise ltF → b.Pairwise ltF → (∀ x ∈ a, x ∈ b) → a.Sublist b
 | [], a, _, _, h => by
  cases a with
  | nil => exact .slnil
  | cons x a => exact absurd (h x List.mem_cons_self) (by simp)
 | y :: b, a, ha, hb, h => by
  rw [List.pairwise_cons] at hb
  cases a with
  | nil => exact List.nil_sublist _
  | cons x a =>
   have ha' := ha
   rw [List.pairwise_cons] at ha
   rcases List.mem_cons.mp (h x List.mem_cons_self) with e | e
   · subst e
     refine List.Sublist.cons₂ _ (zfa b a ha.2 hb.2 fun z hz => ?_)
     rcases List.mem_cons.mp (h z (List.mem_cons_of_mem _ hz)) with e | e
     · exact absurd e.symm (zdv (ha.1 z hz))
     · exact e
   · refine List.Sublist.cons _ (zfa b (x :: a) ha' hb.2 fun z hz => ?_)
     have lt : ltF y z := by
      rcases List.mem_cons.mp hz with rfl | hz
      · exact hb.1 _ e
      · exact zc5 (hb.1 _ e) (ha.1 z hz)
     rcases List.mem_cons.mp (h z hz) with e2 | e2
     · exact absurd e2.symm (zdv lt)
     · exact e2
theorem zhT {w o m m' : List WP} (h : IsMet w o m) (h' : IsMet w o m') : m = m' := zg8 h.asc h'.asc fun f => by rw [h.sp, h'.sp]
theorem zbs {w : List WP} {f : Str} {s : SPN} (h : zal w f = some s) : f ∈ w.map (·.1) := by
 obtain ⟨p, hp, e, _⟩ := zbe h
 exact e ▸ List.mem_map_of_mem hp
theorem zbV {w : List WP} {f : Str} (h : f ∈ w.map (·.1)) : ∃ s, zal w f = some s := zjD h
theorem zej {w o m : List WP} (kw : WOk w) (h : IsMet w o m) (hl : m.length ≤ w.length) : m.map (·.1) = w.map (·.1) := by
 have sub : (w.map (·.1)).Sublist (m.map (·.1)) := zfa _ _ kw.asc h.asc fun f hf => by
  obtain ⟨s, hs⟩ := zbV hf
  have := h.sp f
  rw [hs] at this
  cases e : zal o f with
  | none => rw [e] at this; exact zbs this
  | some u => rw [e] at this; exact zbs this
 exact (sub.eq_of_length_le (by simpa using hl)).symm
theorem zjU {w o m : List WP} (h : IsMet w o m) (hw : (w.map (·.1)).Pairwise ltF) (hl : w.length < m.length) : ∃ f ∈ o.map (·.1), f ∉ w.map (·.1) := by
 by_cases c : ∃ f ∈ m.map (·.1), f ∉ w.map (·.1)
 · obtain ⟨f, h1, h2⟩ := c
   obtain ⟨s, hs⟩ := zbV h1
   have hf := h.sp f
   rw [hs] at hf
   cases e : zal w f with
   | some t => exact absurd (zbs e) h2
   | none =>
    rw [e] at hf
    exact ⟨f, zbs hf.symm, h2⟩
 · have sub := zfa (w.map (·.1)) (m.map (·.1)) h.asc hw fun f hf => by
    by_cases z : f ∈ w.map (·.1)
    · exact z
    · exact absurd ⟨f, hf, z⟩ c
   have := sub.length_le
   simp at this
   omega
def zdA (w m : List WP) (i : Nat) : List (List WP) := match w[i]?, m[i]? with
 | some p, some q => (zbK p.2 q.2).map fun r => m.take i ++ [(p.1, r)] ++ w.drop (i + 1)
 | _, _ => []
def zc1 (w m : List WP) : List (List WP) := (List.range w.length).flatMap (zdA w m)
open Classical in
noncomputable def theMet (w o : List WP) : List WP := if h : ∃ m, IsMet w o m then Classical.choose h else []
theorem zfe {w o m : List WP} (h : IsMet w o m) : theMet w o = m := by
 unfold theMet
 rw [dif_pos ⟨m, h⟩]
 exact zhT (Classical.choose_spec (⟨m, h⟩ : ∃ m, IsMet w o m)) h
noncomputable def one (w o : List WP) : List (List WP) := if zbZ w o = true then [w] else if w.length < (theMet w o).length then [w] else zc1 w (theMet w o)
structure OneOk (w o : List WP) (ps : List (List WP)) : Prop where
 ok : ∀ p ∈ ps, WOk p ∧ p.map (·.1) = w.map (·.1)
 sound : ∀ p ∈ ps, ∀ P, zat p P = true → zat w P = true ∧ (P.map (·.1) = w.map (·.1) → zat o P = false)
 full : ∀ P, zat w P = true → (∃ p ∈ ps, zat p P = true) ∨ zat o P = true
 len : ps.length ≤ 2 * w.length + 1
theorem zbu (a b : List WP) (P : List PP) : zat (a ++ b) P = (zat a P && zat b P) := List.all_append
theorem zcS (p : WP) (P : List PP) : zat [p] P = zci P p := by unfold zat; simp
theorem ziF {P : List PP} {f : Str} {n : Int} (h : zbx P f = some n) : f ∈ P.map (·.1) := by
 unfold zbx at h
 cases e : P.find? (fun x => decide (x.1 = f)) with
 | none => rw [e] at h; cases h
 | some x =>
  have : decide (x.1 = f) = true := List.find?_some (p := fun (x : PP) => decide (x.1 = f)) e
  exact (of_decide_eq_true this) ▸ List.mem_map_of_mem (List.mem_of_find?_eq_some e)
theorem takesP_iff {P : List PP} {p : WP} : zci P p = true ↔ ∃ n, zbx P p.1 = some n ∧ inB p.2.1 p.2.2 n = true := by
 cases e : zbx P p.1 with
 | none => rw [zdH e]; simp
 | some n => rw [zcJ e]; simp
theorem zfD {w o : List WP} (kw : WOk w) (ko : WOk o) (h : zbZ w o = true) : OneOk w o [w] := by
 refine ⟨fun p hp => ?_, fun p hp P t => ?_, fun P t => .inl ⟨w, by simp, t⟩, by simp⟩
 · rw [List.mem_singleton.mp hp]; exact ⟨kw, rfl⟩
 · rw [List.mem_singleton.mp hp] at t
   refine ⟨t, fun _ => ?_⟩
   cases e : zat o P with
   | false => rfl
   | true =>
    obtain ⟨y, hy, ha⟩ := List.any_eq_true.mp h
    unfold zf9 at ha
    cases e1 : zal w y.1 with
    | none => rw [e1] at ha; cases ha
    | some s =>
     rw [e1] at ha
     obtain ⟨n, n1, n2⟩ := (zch kw.asc P).mp t y.1 s e1
     obtain ⟨n', n1', n2'⟩ := takesP_iff.mp (List.all_eq_true.mp e y hy)
     rw [n1] at n1'
     cases n1'
     have := zkc ha n
     rw [zfK, n2, n2'] at this
     cases this
theorem zhj {w o m : List WP} (kw : WOk w) (ko : WOk o) (h : IsMet w o m) (hl : w.length < m.length) : OneOk w o [w] := by
 refine ⟨fun p hp => ?_, fun p hp P t => ?_, fun P t => .inl ⟨w, by simp, t⟩, by simp⟩
 · rw [List.mem_singleton.mp hp]; exact ⟨kw, rfl⟩
 · rw [List.mem_singleton.mp hp] at t
   refine ⟨t, fun hf => ?_⟩
   cases e : zat o P with
   | false => rfl
   | true =>
    obtain ⟨f, f1, f2⟩ := zjU h kw.asc hl
    obtain ⟨s, hs⟩ := zbV f1
    obtain ⟨n, n1, _⟩ := (zch ko.asc P).mp e f s hs
    exact absurd (hf ▸ ziF n1) f2
section
variable {w o m : List WP}
theorem zek (kw : WOk w) (ko : WOk o) (h : IsMet w o m) (ap : zbZ w o = false) (hf : m.map (·.1) = w.map (·.1)) {i : Nat} {p q : WP} (hp : w[i]? = some p) (hq : m[i]? = some q) : q.1 = p.1 ∧ Within p.2 q.2 ∧ (∀ n, inB q.2.1 q.2.2 n = true → inB p.2.1 p.2.2 n = true) := by
 have e1 : q.1 = p.1 := by
  have h1 : (m.map (·.1))[i]? = some q.1 := by rw [List.getElem?_map, hq]; rfl
  have h2 : (w.map (·.1))[i]? = some p.1 := by rw [List.getElem?_map, hp]; rfl
  rw [hf, h2] at h1
  exact (Option.some.inj h1).symm
 have mp := List.mem_of_getElem? hp
 have s1 := zb3 kw.asc mp
 have s2 := zb3 h.asc (List.mem_of_getElem? hq)
 rw [h.sp, e1, s1] at s2
 refine ⟨e1, ?_⟩
 cases e : zal o p.1 with
 | none =>
  rw [e] at s2
  have : p.2 = q.2 := Option.some.inj s2
  rw [← this]
  exact ⟨zgb (kw.ok p mp).2, fun n z => z⟩
 | some u =>
  rw [e] at s2
  have : (mLo p.2.1 u.1, mHi p.2.2 u.2) = q.2 := Option.some.inj s2
  rw [← this]
  obtain ⟨y, hy, y1, y2⟩ := zbe e
  have na : apart (mLo p.2.1 u.1) (mHi p.2.2 u.2) = false := by
   cases e2 : apart (mLo p.2.1 u.1) (mHi p.2.2 u.2) with
   | false => rfl
   | true =>
    have : zbZ w o = true := List.any_eq_true.mpr ⟨y, hy, by unfold zf9; rw [y1, s1, y2]; exact e2⟩
    rw [ap] at this
    cases this
  refine ⟨zhu na, fun n z => ?_⟩
  rw [zfK] at z
  exact ((Bool.and_eq_true _ _).mp z).1
theorem zhC (kw : WOk w) (ko : WOk o) (h : IsMet w o m) (ap : zbZ w o = false) (hf : m.map (·.1) = w.map (·.1)) (i : Nat) {P : List PP} (t : zat (m.take i) P = true) : zat (w.take i) P = true := by
 have hl : m.length = w.length := by have := congrArg List.length hf; simpa using this
 refine List.all_eq_true.mpr fun x hx => ?_
 obtain ⟨j, hj, e⟩ := List.getElem_of_mem hx
 rw [List.length_take] at hj
 have hp : w[j]? = some x := by rw [← e, List.getElem_take, List.getElem?_eq_getElem]
 have hq : m[j]? = some (m[j]'(by omega)) := List.getElem?_eq_getElem _
 obtain ⟨e1, _, e3⟩ := zek kw ko h ap hf hp hq
 have := List.all_eq_true.mp t (m[j]'(by omega)) (by
  rw [List.mem_take_iff_getElem]
  exact ⟨j, by omega, rfl⟩)
 obtain ⟨n, n1, n2⟩ := takesP_iff.mp this
 exact takesP_iff.mpr ⟨n, by rw [← e1]; exact n1, e3 n n2⟩
theorem zhb {w : List WP} {i : Nat} {p : WP} (hp : w[i]? = some p) (P : List PP) : zat w P = (zat (w.take i) P && (zci P p && zat (w.drop (i + 1)) P)) := by
 have e : w = w.take i ++ ([p] ++ w.drop (i + 1)) := by
  have h1 := (List.take_append_drop i w).symm
  obtain ⟨hi, e⟩ := List.getElem?_eq_some_iff.mp hp
  rw [List.drop_eq_getElem_cons hi, e] at h1
  exact h1
 conv => lhs; rw [e]
 rw [zbu, zbu, zcS]
theorem zfC (kw : WOk w) (ko : WOk o) (h : IsMet w o m) (ap : zbZ w o = false) (hl : m.length ≤ w.length) : OneOk w o (zc1 w m) := by
 have hf := zej kw h hl
 have hl' : m.length = w.length := by have := congrArg List.length hf; simpa using this
 have mem : ∀ p ∈ zc1 w m, ∃ i q r s, w[i]? = some q ∧ m[i]? = some r ∧ s ∈ zbK q.2 r.2 ∧ p = m.take i ++ [(q.1, s)] ++ w.drop (i + 1) := fun p hp => by
  obtain ⟨i, hi, z⟩ := List.mem_flatMap.mp hp
  have hi := List.mem_range.mp hi
  have e1 : w[i]? = some w[i] := by simp
  have e2 : m[i]? = some (m[i]'(by omega)) := List.getElem?_eq_getElem _
  unfold zdA at z
  rw [e1, e2] at z
  obtain ⟨s, hs, rfl⟩ := List.mem_map.mp z
  exact ⟨i, _, _, s, e1, e2, hs, rfl⟩
 refine ⟨fun p hp => ?_, fun p hp P t => ?_, fun P t => ?_, ?_⟩
 · obtain ⟨i, q, r, s, e1, e2, hs, rfl⟩ := mem p hp
   obtain ⟨m1, m2, m3⟩ := zek kw ko h ap hf e1 e2
   have li := (List.getElem?_eq_some_iff.mp e1).1
   have fe : ((m.take i ++ [(q.1, s)] ++ w.drop (i + 1)).map (·.1)) = w.map (·.1) := by
    rw [List.map_append, List.map_append, List.map_take, hf, ← List.map_take]
    have : w = w.take i ++ ([q] ++ w.drop (i + 1)) := by
     have h1 := (List.take_append_drop i w).symm
     rw [List.drop_eq_getElem_cons li, (List.getElem?_eq_some_iff.mp e1).2] at h1
     exact h1
    conv => rhs; rw [this]
    simp
   refine ⟨⟨by have := congrArg List.length fe; simp only [List.length_map] at this; rw [this]; exact kw.len, fun x hx => ?_, by rw [fe]; exact kw.asc⟩, fe⟩
   rcases List.mem_append.mp hx with z | z
   · rcases List.mem_append.mp z with z | z
     · have fx : x.1 ∈ w.map (·.1) := by rw [← hf]; exact List.mem_map_of_mem (List.mem_of_mem_take z)
       obtain ⟨y, hy, ey⟩ := List.mem_map.mp fx
       obtain ⟨j, hj, e⟩ := List.getElem_of_mem z
       rw [List.length_take] at hj
       have hq : m[j]? = some x := by rw [← e, List.getElem_take, List.getElem?_eq_getElem]
       have hp' : w[j]? = some (w[j]'(by omega)) := List.getElem?_eq_getElem _
       obtain ⟨e1', e2', _⟩ := zek kw ko h ap hf hp' hq
       exact ⟨ey ▸ (kw.ok y hy).1, e2'.le⟩
     · rw [List.mem_singleton.mp z]
       exact ⟨(kw.ok q (List.mem_of_getElem? e1)).1, zju m2 hs⟩
   · exact kw.ok x (List.mem_of_mem_drop z)
 · obtain ⟨i, q, r, s, e1, e2, hs, rfl⟩ := mem p hp
   obtain ⟨m1, m2, m3⟩ := zek kw ko h ap hf e1 e2
   rw [zbu, zbu, zcS, Bool.and_eq_true, Bool.and_eq_true] at t
   obtain ⟨⟨t1, t2⟩, t3⟩ := t
   obtain ⟨n, n1, n2⟩ := takesP_iff.mp t2
   obtain ⟨b1, b2⟩ := zjv m2 hs n2
   have tw : zat w P = true := by
    rw [zhb e1, zhC kw ko h ap hf i t1, t3, (takesP_iff (p := q)).mpr ⟨n, n1, b1⟩]
    rfl
   refine ⟨tw, fun _ => ?_⟩
   cases e : zat o P with
   | false => rfl
   | true =>
    have tm := zff kw.asc ko.asc h P
    rw [tw, e] at tm
    have := List.all_eq_true.mp tm r (List.mem_of_getElem? e2)
    obtain ⟨n', n1', n2'⟩ := takesP_iff.mp this
    rw [m1, n1] at n1'
    cases n1'
    rw [b2] at n2'
    cases n2'
 · have key : ∀ k, k ≤ w.length → zat (m.take k) P = true ∨ ∃ p ∈ zc1 w m, zat p P = true := by
    intro k
    induction k with
    | zero => intro _; exact .inl rfl
    | succ k ih =>
     intro hk
     rcases ih (by omega) with z | z
     · have e1 : w[k]? = some (w[k]'(by omega)) := List.getElem?_eq_getElem _
       have e2 : m[k]? = some (m[k]'(by omega)) := List.getElem?_eq_getElem _
       generalize w[k]'(by omega) = q at e1
       generalize m[k]'(by omega) = r at e2
       obtain ⟨m1, m2, m3⟩ := zek kw ko h ap hf e1 e2
       have ts := t
       rw [zhb e1, Bool.and_eq_true, Bool.and_eq_true] at ts
       obtain ⟨_, tq, td⟩ := ts
       obtain ⟨n, n1, n2⟩ := takesP_iff.mp tq
       cases c : inB r.2.1 r.2.2 n with
       | true =>
        refine .inl ?_
        rw [zaw e2, zbu, z, zcS, takesP_iff.mpr ⟨n, by rw [m1]; exact n1, c⟩]
        rfl
       | false =>
        obtain ⟨s, hs, hn⟩ := zjt m2 n2 c
        refine .inr ⟨m.take k ++ [(q.1, s)] ++ w.drop (k + 1), ?_, ?_⟩
        · refine List.mem_flatMap.mpr ⟨k, List.mem_range.mpr (by omega), ?_⟩
          unfold zdA
          rw [e1, e2]
          exact List.mem_map_of_mem hs
        · rw [zbu, zbu, zcS, z, td, (takesP_iff (p := (q.1, s))).mpr ⟨n, n1, hn⟩]
          rfl
     · exact .inr z
   rcases key w.length (Nat.le_refl _) with z | z
   · right
     rw [List.take_of_length_le (by omega)] at z
     have tm := zff kw.asc ko.asc h P
     rw [z] at tm
     exact ((Bool.and_eq_true _ _).mp tm.symm).2
   · exact .inl z
 · have : ∀ l : List Nat, (l.flatMap (zdA w m)).length ≤ 2 * l.length := fun l => by
    induction l with
    | nil => simp
    | cons i l ih =>
     rw [List.flatMap_cons, List.length_append, List.length_cons]
     have : (zdA w m i).length ≤ 2 := by
      unfold zdA
      split
      · rw [List.length_map]; exact zbY _ _
      · simp
     omega
   have := this (List.range w.length)
   rw [List.length_range] at this
   exact Nat.le_succ_of_le this
end
theorem zlv {w o : List WP} (kw : WOk w) (ko : WOk o) (hm : zbZ w o = false → IsMet w o (theMet w o)) : OneOk w o (one w o) := by
 unfold one
 cases ap : zbZ w o with
 | true => rw [if_pos rfl]; exact zfD kw ko ap
 | false =>
  rw [if_neg (by simp)]
  by_cases hl : w.length < (theMet w o).length
  · rw [if_pos hl]; exact zhj kw ko (hm ap) hl
  · rw [if_neg hl]; exact zfC kw ko (hm ap) ap (by omega)
theorem zjY {w o : List WP} (kw : WOk w) (ko : WOk o) : ∃ m, IsMet w o m := by
 have : ∀ (l acc : List Str), (acc.Pairwise ltF) → ∃ ms : List Str, ms.Pairwise ltF ∧ (∀ f, f ∈ ms ↔ f ∈ l ∨ f ∈ acc) ∧ ms.length ≤ l.length + acc.length := fun l => by
  induction l with
  | nil => exact fun acc h => ⟨acc, h, fun f => by simp, by simp⟩
  | cons x l ih =>
   intro acc h
   by_cases hx : x ∈ acc
   · obtain ⟨ms, m1, m2, m3⟩ := ih acc h
     refine ⟨ms, m1, fun f => ?_, by rw [List.length_cons]; omega⟩
     rw [m2, List.mem_cons]
     constructor
     · rintro (z | z)
       · exact .inl (.inr z)
       · exact .inr z
     · rintro ((z | z) | z)
       · subst z; exact .inr hx
       · exact .inl z
       · exact .inr z
   · have ins : ∀ acc : List Str, acc.Pairwise ltF → x ∉ acc → ∃ bs : List Str, bs.Pairwise ltF ∧ (∀ f, f ∈ bs ↔ f = x ∨ f ∈ acc) ∧ bs.length = acc.length + 1 := fun acc => by
      induction acc with
      | nil => exact fun _ _ => ⟨[x], by simp, fun f => by simp, rfl⟩
      | cons y acc ih2 =>
       intro h2 n2
       rw [List.pairwise_cons] at h2
       have nx : x ≠ y := fun e => n2 (by rw [e]; exact List.mem_cons_self)
       by_cases lt : ltF x y
       · refine ⟨x :: y :: acc, ?_, fun f => by simp [List.mem_cons], rfl⟩
         rw [List.pairwise_cons, List.pairwise_cons]
         refine ⟨fun z hz => ?_, h2⟩
         rcases List.mem_cons.mp hz with rfl | hz
         · exact lt
         · exact zc5 lt (h2.1 z hz)
       · obtain ⟨bs, b1, b2, b3⟩ := ih2 h2.2 fun z => n2 (List.mem_cons_of_mem _ z)
         refine ⟨y :: bs, ?_, fun f => ?_, by rw [List.length_cons, List.length_cons, b3]⟩
         · rw [List.pairwise_cons]
           refine ⟨fun z hz => ?_, b1⟩
           rcases (b2 z).mp hz with rfl | hz
           · exact ziL lt nx
           · exact h2.1 z hz
         · rw [List.mem_cons, b2, List.mem_cons]
           constructor
           · rintro (z | z | z)
             · exact .inr (.inl z)
             · exact .inl z
             · exact .inr (.inr z)
           · rintro (z | z | z)
             · exact .inr (.inl z)
             · exact .inl z
             · exact .inr (.inr z)
     obtain ⟨bs, b1, b2, b3⟩ := ins acc h hx
     obtain ⟨ms, m1, m2, m3⟩ := ih bs b1
     refine ⟨ms, m1, fun f => ?_, by rw [List.length_cons]; omega⟩
     rw [m2, b2, List.mem_cons]
     constructor
     · rintro (z | z | z)
       · exact .inl (.inr z)
       · exact .inl (.inl z)
       · exact .inr z
     · rintro ((z | z) | z)
       · exact .inr (.inl z)
       · exact .inl z
       · exact .inr (.inr z)
 obtain ⟨ms, m1, m2, m3⟩ := this (w.map (·.1)) (o.map (·.1)) ko.asc
 refine ⟨zee w o ms, zhn m1 (fun f => ?_) (by simpa using m3)⟩
 rw [m2]
 constructor
 · rintro (z | z)
   · obtain ⟨s, hs⟩ := zbV z
     rw [hs]
     cases zal o f <;> rfl
   · obtain ⟨s, hs⟩ := zbV z
     rw [hs]
     cases zal w f <;> rfl
 · intro h
   cases e1 : zal w f with
   | some s => exact .inl (zbs e1)
   | none =>
    cases e2 : zal o f with
    | some s => exact .inr (zbs e2)
    | none => rw [e1, e2] at h; cases h
theorem zjR {w o : List WP} (kw : WOk w) (ko : WOk o) : OneOk w o (one w o) := by
 obtain ⟨m, hm⟩ := zjY kw ko
 exact zlv kw ko fun _ => by rw [zfe hm]; exact hm
noncomputable def partsF (w : List WP) (os : List (List WP)) : List (List WP) := os.foldl (fun ps o => ps.flatMap fun p => one p o) [w]
theorem zdS (w : List WP) (os : List (List WP)) (o : List WP) : partsF w (os ++ [o]) = (partsF w os).flatMap fun p => one p o := by
 unfold partsF
 rw [List.foldl_append]
 rfl
structure AllOk (w : List WP) (os : List (List WP)) (ps : List (List WP)) : Prop where
 ok : ∀ p ∈ ps, WOk p ∧ p.map (·.1) = w.map (·.1)
 sound : ∀ p ∈ ps, ∀ P, zat p P = true → zat w P = true ∧ (P.map (·.1) = w.map (·.1) → ∀ o ∈ os, zat o P = false)
 full : ∀ P, zat w P = true → (∃ p ∈ ps, zat p P = true) ∨ ∃ o ∈ os, zat o P = true
 len : ps.length ≤ 7 ^ os.length
theorem all_nil {w : List WP} (kw : WOk w) : AllOk w [] [w] :=
 ⟨fun p hp => by rw [List.mem_singleton.mp hp]; exact ⟨kw, rfl⟩, fun p hp P t => by rw [List.mem_singleton.mp hp] at t; exact ⟨t, fun _ o ho => by simp at ho⟩, fun P t => .inl ⟨w, by simp, t⟩, by simp⟩
theorem zkd {w o : List WP} {os ps : List (List WP)} {f : List WP → List (List WP)} (h : AllOk w os ps) (hw : w.length ≤ 3) (hf : ∀ p ∈ ps, OneOk p o (f p)) : AllOk w (os ++ [o]) (ps.flatMap f) := by
 have lp : ∀ p ∈ ps, p.length = w.length := fun p hp => by have := congrArg List.length (h.ok p hp).2; simpa using this
 refine ⟨fun p hp => ?_, fun p hp P t => ?_, fun P t => ?_, ?_⟩
 · obtain ⟨q, hq, hp⟩ := List.mem_flatMap.mp hp
   obtain ⟨a, b⟩ := (hf q hq).ok p hp
   exact ⟨a, b.trans (h.ok q hq).2⟩
 · obtain ⟨q, hq, hp⟩ := List.mem_flatMap.mp hp
   obtain ⟨a, b⟩ := (hf q hq).sound p hp P t
   obtain ⟨c, d⟩ := h.sound q hq P a
   refine ⟨c, fun e o' ho' => ?_⟩
   rcases List.mem_append.mp ho' with z | z
   · exact d e o' z
   · rw [List.mem_singleton.mp z]; exact b (e.trans (h.ok q hq).2.symm)
 · rcases h.full P t with ⟨q, hq, tq⟩ | ⟨o', ho', t'⟩
   · rcases (hf q hq).full P tq with ⟨p, hp, tp⟩ | z
     · exact .inl ⟨p, List.mem_flatMap.mpr ⟨q, hq, hp⟩, tp⟩
     · exact .inr ⟨o, List.mem_append_right _ (by simp), z⟩
   · exact .inr ⟨o', List.mem_append_left _ ho', t'⟩
 · have : ∀ l : List (List WP), (∀ p ∈ l, (f p).length ≤ 7) → (l.flatMap f).length ≤ 7 * l.length := fun l hl => by
    induction l with
    | nil => simp
    | cons i l ih =>
     rw [List.flatMap_cons, List.length_append, List.length_cons]
     have h1 := hl i List.mem_cons_self
     have h2 := ih fun p hp => hl p (List.mem_cons_of_mem _ hp)
     omega
   have h1 := this ps fun p hp => by have h1 := (hf p hp).len; have h2 := lp p hp; omega
   rw [List.length_append, List.length_singleton, Nat.pow_succ]
   have := h.len
   omega
def za8 (w : List WP) : List PP := w.map fun p => (p.1, zgJ p.2.1 p.2.2)
theorem zbM (w : List WP) : (za8 w).map (·.1) = w.map (·.1) := by unfold za8; rw [List.map_map]; rfl
theorem zdj {w : List WP} (h : WOk w) : POk (za8 w) := by
 refine ⟨by unfold za8; rw [List.length_map]; exact h.len, fun x hx => ?_, by rw [zbM]; exact h.asc⟩
 obtain ⟨p, hp, rfl⟩ := List.mem_map.mp hx
 exact (h.ok p hp).1
theorem zeN {w : List WP} (h : WOk w) : zat w (za8 w) = true := by
 refine List.all_eq_true.mpr fun p hp => ?_
 have asc : ((za8 w).map (·.1)).Pairwise ltF := by rw [zbM]; exact h.asc
 have := zhO asc (x := (p.1, zgJ p.2.1 p.2.2)) (List.mem_map.mpr ⟨p, hp, rfl⟩)
 exact takesP_iff.mpr ⟨_, this, zjS (h.ok p hp).2⟩
def PsAt (H : Hp) (r : Addr) (ps : List (List WP)) : Prop := ∃ qs : List (Addr × List WP), qs.map (·.2) = ps ∧ H r = some (.lst (qs.map fun q => V.ref q.1)) ∧ ∀ q ∈ qs, WishAt H q.1 q.2
def zb4 : Sp := fun vs H Q _ => ∃ (v w : V) (s t : SPN), vs = [v, w] ∧ SpanAt H v s.1 s.2 ∧ SpanAt H w t.1 t.2 ∧ Within s t ∧ ∀ (r : Addr) (ss : List (Addr × SPN)) (H' : Hp), H r = none → Same H H' → ss.map (·.2) = zbK s t → H' r = some (.lst (ss.map fun x => V.ref x.1)) → (∀ x ∈ ss, H' x.1 = some (.tup [eV x.2.1, eV x.2.2])) → Q (.ref r) H'
def zdg : Sp := fun vs H Q _ => ∃ (a b : Addr) (w o : List WP), vs = [.ref a, .ref b] ∧ WishAt H a w ∧ WishAt H b o ∧ WOk w ∧ WOk o ∧ w.length ≤ 6 ∧ o.length ≤ 6 ∧
 ∀ (r : Addr) (H' : Hp), H r = none → Same H H' → PsAt H' r (one w o) → OneOk w o (one w o) → Q (.ref r) H'
def zgj : Sp := fun vs H Q _ => ∃ (a l : Addr) (w : List WP) (os : List (Addr × List WP)), vs = [.ref a, .ref l] ∧ WishAt H a w ∧ WOk w ∧ w.length ≤ 3 ∧ WsAt H l os ∧ os.length ≤ 7 ∧ (∀ x ∈ os, x.2.length ≤ 6) ∧
 ∀ (r : Addr) (H' : Hp), Same H H' → PsAt H' r (partsF w (os.map (·.2))) → AllOk w (os.map (·.2)) (partsF w (os.map (·.2))) → Q (.ref r) H'
def ToldPc (H : Hp) (v : V) (ps : List (List WP)) : Prop := match ps with
 | [] => v = .non
 | p :: _ => ∃ t, v = .ref t ∧ PieceAt H t (za8 p)
theorem ToldPc.same {H H' : Hp} {v : V} {ps : List (List WP)} (h : ToldPc H v ps) (s : Same H H') : ToldPc H' v ps := by
 cases ps with
 | nil => exact h
 | cons p ps => obtain ⟨t, h1, h2⟩ := h; exact ⟨t, h1, h2.same s⟩
def zb5 : Sp := fun vs H Q _ => ∃ (a l : Addr) (w : List WP) (os : List (Addr × List WP)), vs = [.ref a, .ref l] ∧ WishAt H a w ∧ WOk w ∧ w.length ≤ 3 ∧ WsAt H l os ∧ os.length ≤ 7 ∧ (∀ x ∈ os, x.2.length ≤ 6) ∧
 ∀ (v : V) (H' : Hp), Same H H' → ToldPc H' v (partsF w (os.map (·.2))) → AllOk w (os.map (·.2)) (partsF w (os.map (·.2))) → Q v H'
def zdh : Sp := fun vs H Q _ => ∃ (l : Addr) (ws : List (Addr × List WP)) (fs : List Str), vs = [.ref l] ∧ WsAt H l ws ∧ fs.length ≤ 6 ∧ (∀ x ∈ ws, inF fs x.2) ∧
 ∀ (r : Addr) (ms : List Str) (H' : Hp), Same H H' → H r = none → H' r = some (.lst (ms.map V.str)) → ms.Nodup → sortedS ms = true → (∀ f, f ∈ ms ↔ ∃ x ∈ ws, f ∈ x.2.map (·.1)) → Q (.ref r) H'
def zkD : Sp := fun vs H Q _ => ∃ (l f : Addr) (xs ys : List V), vs = [.ref l, .ref f] ∧ H l = some (.lst xs) ∧ H f = some (.lst ys) ∧ xs.length ≤ 7 ∧ ys.length ≤ 3 ∧ Q .non H
def zcL : Sp := fun vs H Q _ => ∃ (a l : Addr) (w : List WP) (os : List (Addr × List WP)) (fs : List Str), vs = [.ref a, .ref l] ∧ WishAt H a w ∧ WOk w ∧ WsAt H l os ∧ os.length ≤ 7 ∧ fs.length ≤ 3 ∧ inF fs w ∧ (∀ x ∈ os, inF fs x.2) ∧
 ∀ (v : V) (H' : Hp), Same H H' → ToldPc H' v (partsF w (os.map (·.2))) → AllOk w (os.map (·.2)) (partsF w (os.map (·.2))) → Q v H'
theorem zi4 {fs : List Str} {w : List WP} (kw : WOk w) (h : inF fs w) : w.length ≤ fs.length := by
 have nd : (w.map (·.1)).Nodup := zf8 kw.asc
 have : ∀ (a b : List Str), a.Nodup → (∀ x ∈ a, x ∈ b) → a.length ≤ b.length := fun a => by
  induction a with
  | nil => intro b _ _; exact Nat.zero_le _
  | cons x a ih =>
   intro b hn hs
   rw [List.nodup_cons] at hn
   have hx := hs x List.mem_cons_self
   have := ih (b.erase x) hn.2 fun y hy => by
    have ne : y ≠ x := fun e => hn.1 (e ▸ hy)
    exact (List.mem_erase_of_ne ne).mpr (hs y (List.mem_cons_of_mem _ hy))
   rw [List.length_erase_of_mem hx] at this
   have := List.length_pos_of_mem hx
   rw [List.length_cons]
   omega
 have := this (w.map (·.1)) fs nd fun f hf => by
  obtain ⟨p, hp, rfl⟩ := List.mem_map.mp hf
  exact h p hp
 simpa using this
theorem zfS {ms fs : List Str} (hn : ms.Nodup) (hs : ∀ x ∈ ms, x ∈ fs) : ms.length ≤ fs.length := by
 induction ms generalizing fs with
 | nil => exact Nat.zero_le _
 | cons x a ih =>
  rw [List.nodup_cons] at hn
  have hx := hs x List.mem_cons_self
  have := ih (fs := fs.erase x) hn.2 fun y hy => by
   have ne : y ≠ x := fun e => hn.1 (e ▸ hy)
   exact (List.mem_erase_of_ne ne).mpr (hs y (List.mem_cons_of_mem _ hy))
  rw [List.length_erase_of_mem hx] at this
  have := List.length_pos_of_mem hx
  rw [List.length_cons]
  omega
theorem zkR {X : Cx} {tg : Expr} (K : PySem.W.Frag) (h : X.K = K) {l : Expr} {tl : TE} (hl : PE X l tl) (hc : X.calm = true := by rfl) : PI X tg l (iTup K tl) := by subst h; exact zcY hl
theorem zjL {X : Cx} {tg : Expr} (K : PySem.W.Frag) (h : X.K = K) {l : Expr} {tl : TE} (hl : PE X l tl) (hc : X.calm = true := by rfl) : PI X tg l (zlI K tl) := by subst h; exact zaT hl
theorem zeW {i : Nat} {v : V} {σ : St} {H : Hp} {A B : St → Hp → Prop} (h : A (σ.set i (some v)) H) : zcO i v σ H fun σ2 H2 => tYes σ2 H2 fun b H3 => if b = true then A σ2 H3 else B σ2 H3 := by
 show (if true = true then A (σ.set i (some v)) H else B (σ.set i (some v)) H)
 exact iteT h
theorem zk9 {σ : St} {H : Hp} {A B : Hp → Prop} (h : A H) : tYes σ H fun b H3 => if b = true then A H3 else B H3 := by
 show (if true = true then A H else B H)
 exact iteT h
theorem big7 {n : Nat} (h : n ≤ 7 ^ 7 * 7) : n < sizeLine := Nat.lt_of_le_of_lt h (by decide)
theorem ziS {K : PySem.W.Frag} {H : Hp} {a p : Addr} {Q : VK} {js : Cap} {σ cap : St} {wi1 : TI} {te : TE} (qs : List (Addr × List WP)) (f : List WP → List (List WP)) (hq : SqL K H a (qs.map fun q => V.ref q.1)) (hp : H p = none) (hσ : inn js σ = none :: none :: cap)
 (hb : ∀ q ∈ qs, (f q.2).length ≤ 7) (hn : qs.length ≤ 7 ^ 7) (hw : ∀ q ∈ qs, WishAt H q.1 q.2)
 (hi : ∀ q ∈ qs, ∀ (y : Option V) (H' : Hp) (R : It → Hp → Prop), Same H H' → (∀ (b : Addr) (rs : List (Addr × List WP)) (H'' : Hp), H' b = none → Same H' H'' → H'' b = some (.lst (rs.map fun x => V.ref x.1)) → rs.map (·.2) = f q.2 → (∀ x ∈ rs, WishAt H'' x.1 x.2) → R (Itl K b) H'') → wi1 (some (.ref q.1) :: y :: cap) H' R)
 (he : ∀ (u : Option V) (v : V) (H' : Hp) (R : VK), R v H' → te (u :: some v :: cap) H' R)
 (hQ : ∀ (H' : Hp) (zs : List (Addr × List WP)), Same H H' → zs.map (·.2) = qs.flatMap (fun q => f q.2) → H' p = some (.lst (zs.map fun z => V.ref z.1)) → (∀ z ∈ zs, WishAt H' z.1 z.2) → Q (.ref p) H') :
 zg6 (Itl K a) p js (zcO 0) tYes wi1 (zcO 1) tYes te σ H Q := by
 have s0 := zae hp (.lst [])
 have flen : ∀ l : List (Addr × List WP), (∀ q ∈ l, (f q.2).length ≤ 7) → (l.flatMap fun q => f q.2).length ≤ 7 * l.length := fun l hl => by
  induction l with
  | nil => simp
  | cons x l ih =>
   rw [List.flatMap_cons, List.length_append, List.length_cons]
   have h1 := hl x List.mem_cons_self
   have h2 := ih fun q hq => hl q (List.mem_cons_of_mem _ hq)
   omega
 have lq : (qs.map fun q => V.ref q.1).length = qs.length := List.length_map _
 refine ⟨fun i m σ' ys H' => m = qs.length - i ∧ i ≤ qs.length ∧ (∃ y0 y1, σ' = y0 :: y1 :: cap) ∧ Same H H' ∧ H' p = some (.lst ys) ∧ ∃ zs : List (Addr × List WP), ys = zs.map (fun z => V.ref z.1) ∧ zs.map (·.2) = (qs.take i).flatMap (fun q => f q.2) ∧ ∀ z ∈ zs, WishAt H' z.1 z.2, ⟨qs.length, by simp, Nat.zero_le _, ⟨none, none, hσ⟩, s0, zab, [], rfl, rfl, fun z hz => by simp at hz⟩, ?_⟩
 rintro i m σ' ys H1 ⟨rfl, hi1, ⟨y0, y1, rfl⟩, s1, e1, zs, rfl, z1, z2⟩
 refine ⟨e1, ?_⟩
 by_cases hlt : i < qs.length
 · right
   have eq : qs[i]? = some qs[i] := by simp
   have hx : (qs.map fun q => V.ref q.1)[i]? = some (V.ref qs[i].1) := by rw [List.getElem?_map, eq]; rfl
   have hm := List.mem_of_getElem? eq
   generalize qs[i] = q at *
   refine ⟨⟨_, _, s1.seq hq, hx⟩, ?_⟩
   rintro x H2 ⟨rfl, hx2⟩
   have : some (V.ref q.1) = some x := hx.symm.trans (hx2 _ (s1.seq hq))
   cases this
   refine zeW ?_
   refine hi q hm y1 H2 _ s1 fun b rs H3 nb s3 eb rf rw' => ?_
   have bp : b ≠ p := fun z => by rw [z, e1] at nb; cases nb
   have e3 := s3 _ _ e1
   have lr : rs.length = (f q.2).length := by rw [← rf, List.length_map]
   have l1 : zs.length ≤ 7 * i := by
    have h1 := congrArg List.length z1
    rw [List.length_map] at h1
    rw [h1]
    have := flen (qs.take i) fun q hq => hb q (List.mem_of_mem_take hq)
    rw [List.length_take] at this
    omega
   refine ⟨fun j m1 σ3 zs' H5 => m1 = rs.length - j ∧ j ≤ rs.length ∧ (∃ y1, σ3 = some (.ref q.1) :: y1 :: cap) ∧ Same H H5 ∧ H5 p = some (.lst zs') ∧ H5 b = some (.lst (rs.map fun x => V.ref x.1)) ∧ (∀ x ∈ rs, WishAt H5 x.1 x.2) ∧
    ∃ us : List (Addr × List WP), zs' = us.map (fun z => V.ref z.1) ∧ us.map (·.2) = (qs.take i).flatMap (fun q => f q.2) ++ (f q.2).take j ∧ ∀ z ∈ us, WishAt H5 z.1 z.2, ⟨rs.length, by simp, Nat.zero_le _, ⟨_, rfl⟩, s1.trans s3, e3, eb, rw', zs, rfl, by rw [z1]; simp, fun z hz => (z2 z hz).same s3⟩, ?_⟩
   rintro j m1 σ3 zs' H5 ⟨rfl, hj, ⟨y1', rfl⟩, s5, e5, b5, r5, us, rfl, u1, u2⟩
   refine ⟨e5, ?_⟩
   by_cases hjl : j < rs.length
   · right
     have er : rs[j]? = some rs[j] := by simp
     have hy : (rs.map fun x => V.ref x.1)[j]? = some (V.ref rs[j].1) := by rw [List.getElem?_map, er]; rfl
     have ef : (f q.2)[j]? = some rs[j].2 := by rw [← rf, List.getElem?_map, er]; rfl
     have wr := r5 _ (List.mem_of_getElem? er)
     generalize rs[j] = r at *
     have lu : us.length ≤ 7 * i + j := by
      have h1 := congrArg List.length u1
      rw [List.length_map, List.length_append, List.length_take] at h1
      have h2 := flen (qs.take i) fun q hq => hb q (List.mem_of_mem_take hq)
      rw [List.length_take] at h2
      omega
     have := hb q hm
     refine ⟨⟨_, _, SqL.of b5, hy⟩, by rw [List.length_map]; exact big7 (by omega), ?_⟩
     rintro x H6 ⟨rfl, hx6⟩
     have : some (V.ref r.1) = some x := hy.symm.trans (hx6 _ (SqL.of b5))
     cases this
     have tl := zb0 (o := .lst (us.map (fun z => V.ref z.1) ++ [V.ref r.1])) e5
     refine zeW ?_
     refine he _ _ _ _ ⟨e5, rs.length - (j + 1), by omega, rfl, hjl, ⟨_, rfl⟩, zbL s5 hp, zab, by rw [zan bp]; exact b5, fun x hx => (r5 x hx).keep tl, us ++ [r], by rw [List.map_append]; rfl, ?_, fun z hz => ?_⟩
     · rw [List.map_append, u1, zaw ef, List.append_assoc]; rfl
     · rcases List.mem_append.mp hz with z | z
       · exact (u2 _ z).keep tl
       · rw [List.mem_singleton.mp z]; exact wr.keep tl
   · left
     have e : j = rs.length := by omega
     subst e
     refine ⟨⟨_, SqL.of b5, by rw [List.length_map]; exact Nat.le_refl _⟩, qs.length - (i + 1), by omega, rfl, hlt, ⟨_, _, rfl⟩, s5, e5, us, rfl, ?_, u2⟩
     have et : (f q.2).take rs.length = f q.2 := List.take_of_length_le (by omega)
     rw [u1, et, zaw eq, List.flatMap_append]
     simp
 · left
   have e : i = qs.length := by omega
   subst e
   refine ⟨⟨_, s1.seq hq, by rw [lq]; exact Nat.le_refl _⟩, hQ H1 zs s1 ?_ e1 z2⟩
   rw [z1, List.take_length]
theorem zhE {K : PySem.W.Frag} {H : Hp} {l : Addr} {js : Cap} {σ : St} {wi1 : TI} {g1 : TG} {te : TE} {M : List Str → Hp → Prop} (ws : List (Addr × List WP)) (fs : List Str) (hl : SqL K H l (ws.map fun q => V.ref q.1)) (hw : ∀ q ∈ ws, WishAt H q.1 q.2) (hin : ∀ x ∈ ws, inF fs x.2) (hf : fs.length ≤ 6) (hσ : inn js σ = [none, none, none, none])
 (hi : ∀ x ∈ ws, ∀ (y1 y2 y3 : Option V) (R : It → Hp → Prop), (∃ xs, SqT K H x.1 xs) → R (Itt K x.1) H → wi1 [some (.ref x.1), y1, y2, y3] H R)
 (hg : ∀ (x0 y1 y2 y3 : Option V) (p : Addr × WP) (R : St → Hp → Prop), H p.1 = some (.tup [.str p.2.1, eV p.2.2.1, eV p.2.2.2]) → R [x0, some (.str p.2.1), some (eV p.2.2.1), some (eV p.2.2.2)] H → g1 (.ref p.1) [x0, y1, y2, y3] H R)
 (he : ∀ (x0 y2 y3 : Option V) (f : Str) (R : VK), R (.str f) H → te [x0, some (.str f), y2, y3] H R)
 (hM : ∀ ks, ks.Nodup → ks.length ≤ 6 → (∀ f, f ∈ ks ↔ ∃ x ∈ ws, f ∈ x.2.map (·.1)) → M ks H) :
 zg5 (Itl K l) js (zcO 0) tYes wi1 g1 tYes te σ H M := by
 have lq : (ws.map fun q => V.ref q.1).length = ws.length := List.length_map _
 have few : ∀ ks : List Str, ks.Nodup → (∀ f, f ∈ ks → ∃ x ∈ ws, f ∈ x.2.map (·.1)) → ks.length ≤ 6 := fun ks nd h => by
  refine Nat.le_trans (zfS nd fun f hf' => ?_) hf
  obtain ⟨x, hx, hx2⟩ := h f hf'
  obtain ⟨p, hp, rfl⟩ := List.mem_map.mp hx2
  exact hin x hx p hp
 refine ⟨fun i m σ' ks H' => m = ws.length - i ∧ i ≤ ws.length ∧ (∃ y0 y1 y2 y3, σ' = [y0, y1, y2, y3]) ∧ H' = H ∧ ks.Nodup ∧ ∀ f, f ∈ ks ↔ ∃ x ∈ ws.take i, f ∈ x.2.map (·.1), ⟨ws.length, by simp, Nat.zero_le _, ⟨none, none, none, none, hσ⟩, rfl, List.nodup_nil, fun f => by simp⟩, ?_⟩
 rintro i m σ' ks H1 ⟨rfl, hi1, ⟨y0, y1, y2, y3, rfl⟩, rfl, nd, mem⟩
 by_cases hlt : i < ws.length
 · right
   have eq : ws[i]? = some ws[i] := by simp
   have hx : (ws.map fun q => V.ref q.1)[i]? = some (V.ref ws[i].1) := by rw [List.getElem?_map, eq]; rfl
   have hm := List.mem_of_getElem? eq
   generalize ws[i] = q at *
   refine ⟨⟨_, _, hl, hx⟩, ?_⟩
   rintro x H2 ⟨rfl, hx2⟩
   have : some (V.ref q.1) = some x := hx.symm.trans (hx2 _ hl)
   cases this
   obtain ⟨ps, hps, hA, hP⟩ := hw q hm
   have hS : SqT K H2 q.1 (ps.map fun p => V.ref p.1) := SqT.of hA
   refine zeW ?_
   refine hi q hm y1 y2 y3 _ ⟨_, hS⟩ ?_
   refine ⟨fun j m1 σ3 zs H5 => m1 = ps.length - j ∧ j ≤ ps.length ∧ (∃ y1 y2 y3, σ3 = [some (.ref q.1), y1, y2, y3]) ∧ H5 = H2 ∧ zs.Nodup ∧ ∀ f, f ∈ zs ↔ (∃ x ∈ ws.take i, f ∈ x.2.map (·.1)) ∨ f ∈ ((ps.map (·.2)).take j).map (·.1), ⟨ps.length, by simp, Nat.zero_le _, ⟨_, _, _, rfl⟩, rfl, nd, fun f => by rw [mem]; simp⟩, ?_⟩
   rintro j m1 σ3 zs H5 ⟨rfl, hj, ⟨y1', y2', y3', rfl⟩, rfl, nd5, mem5⟩
   by_cases hjl : j < ps.length
   · right
     have er : ps[j]? = some ps[j] := by simp
     have hy : (ps.map fun x => V.ref x.1)[j]? = some (V.ref ps[j].1) := by rw [List.getElem?_map, er]; rfl
     have hpj := hP _ (List.mem_of_getElem? er)
     have ew : (ps.map (·.2))[j]? = some ps[j].2 := by rw [List.getElem?_map, er]; rfl
     generalize ps[j] = r at *
     have l6 := few zs nd5 fun f hf' => by
      rcases (mem5 f).mp hf' with ⟨x, hx', z⟩ | z
      · exact ⟨x, List.mem_of_mem_take hx', z⟩
      · refine ⟨q, hm, ?_⟩
        rw [← hps]
        obtain ⟨p, hp, rfl⟩ := List.mem_map.mp z
        exact List.mem_map_of_mem (List.mem_of_mem_take hp)
     refine ⟨⟨_, _, hS, hy⟩, by omega, ?_⟩
     rintro x H6 ⟨rfl, hx6⟩
     have : some (V.ref r.1) = some x := hy.symm.trans (hx6 _ hS)
     cases this
     refine hg _ _ _ _ r _ hpj ?_
     refine zk9 ?_
     refine he _ _ _ _ _ ⟨r.2.1, rfl, fun zs' l' m' nd' => ⟨ps.length - (j + 1), by omega, rfl, hjl, ⟨_, _, _, rfl⟩, rfl, nd', fun f => ?_⟩⟩
     rw [m', mem5, zaw ew, List.map_append, List.mem_append]
     simp only [List.map_cons, List.map_nil, List.mem_singleton]
     constructor
     · rintro ((z | z) | z)
       · exact .inl z
       · exact .inr (.inl z)
       · exact .inr (.inr z)
     · rintro (z | z | z)
       · exact .inl (.inl z)
       · exact .inl (.inr z)
       · exact .inr z
   · left
     have e : j = ps.length := by omega
     subst e
     refine ⟨⟨_, hS, by rw [List.length_map]; exact Nat.le_refl _⟩, ws.length - (i + 1), by omega, rfl, hlt, ⟨_, _, _, _, rfl⟩, rfl, nd5, fun f => ?_⟩
     have et : (ps.map (·.2)).take ps.length = ps.map (·.2) := List.take_of_length_le (by simp)
     rw [mem5, et, hps, zaw eq]
     simp only [List.mem_append, List.mem_singleton]
     constructor
     · rintro (⟨x, h1, h2⟩ | h)
       · exact ⟨x, .inl h1, h2⟩
       · exact ⟨q, .inr rfl, h⟩
     · rintro ⟨x, h1 | h1, h2⟩
       · exact .inl ⟨x, h1, h2⟩
       · subst h1; exact .inr h2
 · left
   have e : i = ws.length := by omega
   subst e
   rw [List.take_length] at mem
   exact ⟨⟨_, hl, by rw [lq]; exact Nat.le_refl _⟩, hM ks nd (few ks nd fun f hf' => (mem f).mp hf') mem⟩
end L2
set_option maxHeartbeats 4000000
namespace K12
open PySem PySem.Spec PyProof.Rows L2
def top (i : Nat) : Stmt := PySem.Challenge.pw_newsways_k12_covered_together_by_trial.main.body.getD i (.Pass ⟨0, 0, 0, 0⟩)
abbrev zcz : Stmt := top 5
abbrev zdC : Stmt := top 6
abbrev zcU : Stmt := top 7
abbrev zaS : Stmt := top 8
abbrev zb6 : Stmt := top 9
abbrev zbS : Stmt := top 12
abbrev zbg : Stmt := top 13
abbrev zaQ : Stmt := top 14
abbrev zck : Stmt := top 15
abbrev zbH : Stmt := top 16
abbrev zbj : Stmt := top 17
abbrev zbh : Stmt := top 18
abbrev zaO : Stmt := top 19
abbrev za6 : Stmt := top 20
abbrev zbf : Stmt := top 30
abbrev zaP : Stmt := top 29
abbrev zaV : Stmt := top 28
abbrev zaU : Stmt := top 27
abbrev zbw : Stmt := top 26
abbrev zb9 : Stmt := top 25
abbrev zaR : Stmt := top 24
abbrev zbt : Stmt := top 32
abbrev zcv : Stmt := top 33
abbrev zbQ : Stmt := top 34
abbrev zbG : Stmt := top 35
abbrev zcy : Stmt := top 36
abbrev zcx : Stmt := top 37
abbrev zcw : Stmt := top 38
abbrev zcu : Stmt := top 39
abbrev zbF : Stmt := top 40
abbrev zb7 : Stmt := top 42
abbrev zb8 : Stmt := top 41
abbrev zaW : Stmt := top 43
abbrev za3 : Stmt := top 44
abbrev zbv : Stmt := top 45
abbrev zbR : Stmt := top 46
abbrev zfq : Stmt := top 47
def zev (m : Nat) : Sp := fun vs H Q _ => ∃ (v v' : V) (d : DY), vs = [v, v'] ∧ m ≤ 9 ∧ RepY H d v ∧ RepY H d v' ∧ zaH d ≤ m ∧ ∀ H', Same H H' → Q (.bl true) H'
def zih : Sp := fun vs H Q _ => ∃ (a : Addr) (p : List PP), vs = [.ref a] ∧ PieceAt H a p ∧ POk p ∧ ∀ H', Same H H' → Q (.bl true) H'
def spPoints : Sp := fun vs H Q _ => ∃ (a t : Addr) (fs : List Str) (lo sz wide : Int), vs = [.ref a, .ref t, .int wide] ∧ H a = some (.lst (fs.map V.str)) ∧ fs.length ≤ 3 ∧ (∀ f ∈ fs, FieldOk f) ∧ fs.Pairwise ltF ∧ H t = some (.tup [.int lo, .int sz]) ∧ 1 ≤ sz ∧ sz ≤ 10 ^ 10 ∧ 1 ≤ wide ∧ wide ≤ 9 ∧
 ∀ (r : Addr) (qs : List (Addr × List PP)) (H' : Hp), Same H H' → H' r = some (.lst (qs.map fun q => V.ref q.1)) → qs.length ≤ 8000 → (∀ q ∈ qs, PieceAt H' q.1 q.2 ∧ POk q.2) → Q (.ref r) H'
def zij : Sp := fun vs H Q _ => ∃ (a l c : Addr) (w : List WP) (os : List (Addr × List WP)) (p : List PP), vs = [.ref a, .ref l, .ref c] ∧ WishAt H a w ∧ WsAt H l os ∧ PieceAt H c p ∧ POk p ∧ ∀ H', Same H H' → Q (.bl (zat w p && os.all fun o => !zat o.2 p)) H'
def dyPP (p : PP) : DY := .tup [.str p.1, .int p.2]
def dyPc (p : List PP) : DY := .tup (p.map dyPP)
theorem zhe {H : Hp} : ∀ ps : List (Addr × PP), (∀ p ∈ ps, H p.1 = some (.tup [.str p.2.1, .int p.2.2])) → (∀ p ∈ ps, p.2.1.length ≤ 8) → RepYs H ((ps.map (·.2)).map dyPP) (ps.map fun p => V.ref p.1)
 | [], _, _ => RepYs.nil
 | p :: ps, h, hl => by
  refine RepYs.cons ?_ (zhe ps (fun x hx => h x (List.mem_cons_of_mem _ hx)) fun x hx => hl x (List.mem_cons_of_mem _ hx))
  refine zeI (h p List.mem_cons_self) (RepYs.cons ?_ (RepYs.cons (by rw [RepY]) RepYs.nil)) (by simp)
  rw [RepY]
  exact ⟨rfl, Nat.le_trans (hl p List.mem_cons_self) (by decide)⟩
theorem zkM {H : Hp} {a : Addr} {p : List PP} (h : PieceAt H a p) (ok : POk p) : RepY H (dyPc p) (.ref a) := by
 obtain ⟨ps, rfl, e, f⟩ := h
 refine zeI e (zhe ps f fun p hp => ?_) (by have := ok.len; rw [List.length_map] at *; omega)
 exact (ok.ok p.2 (List.mem_map_of_mem hp)).eight
theorem zj7 (p : List PP) : zaH (dyPc p) ≤ 2 := by
 unfold dyPc
 rw [zaH]
 have : za2 (p.map dyPP) ≤ 1 := zcE fun d hd => by
  obtain ⟨p, _, rfl⟩ := List.mem_map.mp hd
  unfold dyPP
  simp only [zaH, za2]
  omega
 omega
def dyT : List (List WP) → DY
 | [] => .non
 | p :: _ => dyPc (za8 p)
theorem zfs {H : Hp} {v : V} {ps : List (List WP)} (h : ToldPc H v ps) (ok : ∀ p ∈ ps, WOk p) : RepY H (dyT ps) v := by
 cases ps with
 | nil =>
  have : v = .non := h
  subst this
  show RepY H .non .non
  rw [RepY]
 | cons p ps =>
  obtain ⟨t, rfl, h⟩ := h
  exact zkM h (zdj (ok p List.mem_cons_self))
theorem zh4 (ps : List (List WP)) : zaH (dyT ps) ≤ 2 := by
 cases ps with
 | nil => show zaH .non ≤ 2; rw [zaH]; omega; all_goals simp
 | cons p ps => exact zj7 _
section
variable {P : Program} {w : World} {K : PySem.W.Frag} {mg : Str → Option Value} {base : Heap}
theorem scM {N P : List Str} {sc : Scope} (h1 : sc.kind = .function := by rfl) (h2 : sc.isCoroutine = false := by rfl) (h3 : sc.isGenerator = false := by rfl) (h4 : N.Nodup := by decide +kernel) (h5 : N.take P.length = P := by rfl) (h6 : ∀ x ∈ P, sc.names.lookup x = some .local ∨ sc.names.lookup x = some .cell := by decide +kernel) (h7 : ∀ y ∈ sc.names, y.2 ≠ .free := by decide +kernel) : FnScope N P sc := ⟨h1, h2, h3, h4, h5, h6, h7⟩
theorem zgr : FnScope ["thing"] ["thing"] (zag zcz) := scM
theorem zio : FnScope ["thing"] ["thing"] (zag zdC) := scM
theorem sc_is_span : FnScope ["thing", "low", "high"] ["thing"] (zag zcU) := scM
theorem sc_span_shared : FnScope ["one", "other", "low", "high"] ["one", "other"] (zag zaS) := scM
theorem sc_number_of : FnScope ["span", "low", "high"] ["span"] (zag zb6) := scM
theorem zgs : FnScope ["thing"] ["thing"] (zag zbS) := scM
theorem sc_is_wish_part : FnScope ["thing", "field", "low", "high"] ["thing"] (zag zbg) := scM
theorem zdy : FnScope ["parts"] ["parts"] (zag zaQ) := scM
theorem zhD : FnScope ["thing"] ["thing"] (zag zck) := scM
theorem zeF : FnScope ["thing"] ["thing"] (zag zbH) := scM
theorem zeG : FnScope ["thing"] ["thing"] (zag zbj) := scM
theorem zdO : FnScope ["thing"] ["thing"] (zag zbh) := scM
theorem zdi : FnScope ["wish"] ["wish"] (zag zaO) := scM
theorem sc_wish_shared : FnScope ["one", "other", "met", "field", "low", "high", "shared"] ["one", "other"] (zag za6) := scM
theorem sc_spans_beside : FnScope ["span", "inner", "low", "high", "inner_low", "inner_high", "below", "above"] ["span", "inner"] (zag zbf) := scM
theorem sc_parts_beside_one : FnScope ["wish", "other", "met", "parts", "at", "field", "low", "high", "part_low", "part_high"] ["wish", "other"] (zag zaP) := scM
theorem sc_parts_beside : FnScope ["wish", "others", "parts", "other"] ["wish", "others"] (zag zaV) := scM
theorem sc_piece_beside : FnScope ["wish", "others", "parts"] ["wish", "others"] (zag zaU) := scM
theorem zfo : FnScope ["wishes"] ["wishes"] (zag zbw) := scM
theorem zfp : FnScope ["wishes", "fields"] ["wishes", "fields"] (zag zb9) := scM
theorem zcT : FnScope ["wish", "wishes"] ["wish", "wishes"] (zag zaR) := scM
theorem sc_law_well : FnScope ["script", "great", "small", "seed", "number"] ["script"] (zag zbt) := scM
theorem sc_law_take : FnScope ["well", "many", "number", "cell"] ["well", "many"] (zag zcv) := scM
theorem sc_law_name : FnScope ["well", "most", "letters"] ["well", "most"] (zag zbQ) := scM
theorem sc_law_fields : FnScope ["well", "many", "letters", "found", "k", "pick", "first", "letter", "at", "word"] ["well", "many"] (zag zbG) := scM
theorem sc_law_base : FnScope ["well", "pick", "sign", "number"] ["well"] (zag zcy) := scM
theorem sc_law_grid : FnScope ["well", "pick", "size"] ["well"] (zag zcx) := scM
theorem sc_law_span : FnScope ["well", "grid", "wide", "pick", "low", "high"] ["well", "grid", "wide"] (zag zcw) := scM
theorem sc_law_wish : FnScope ["well", "names", "grid", "wide", "parts", "field", "low", "high"] ["well", "names", "grid", "wide"] (zag zcu) := scM
theorem sc_law_wishes : FnScope ["well", "names", "grid", "wide", "many", "found", "k", "pick", "wish", "old", "at"] ["well", "names", "grid", "wide", "many"] (zag zbF) := scM
theorem zfn : FnScope ["thing"] ["thing"] (zag zb7) := scM
theorem sc_law_wants : FnScope ["wish", "piece", "there", "field", "low", "high"] ["wish", "piece"] (zag zb8) := scM
theorem sc_law_is_piece : FnScope ["thing", "last", "pair"] ["thing"] (zag zaW) := scM
theorem sc_law_points : FnScope ["names", "grid", "wide", "numbers", "found", "field", "longer", "piece"] ["names", "grid", "wide"] (zag za3) := scM
theorem zdr : FnScope ["found", "due"] ["found", "due"] (zag zbv) := scM
theorem zgq : FnScope ["wish", "wishes", "piece"] ["wish", "wishes", "piece"] (zag zbR) := scM
theorem sc_law : FnScope ["script", "well", "names", "wide", "many", "grid", "some", "at", "wish", "wishes", "handed", "found"] ["script"] (zag zfq) := scM
section
variable (P : Program) (w : World) (K : PySem.W.Frag) (mg : Str → Option Value) (base : Heap)
abbrev Γ0 := FnH P w K mg base 1 "is_whole" ["thing"] (zde K)
abbrev Γ1 := FnH P w K mg base 2 "is_end" ["thing"] (zkE K)
abbrev Γ5 := FnH P w K mg base 1 "is_field" ["thing"] (zgl)
abbrev Γ2 := FnH P w K mg base 3 "is_span" ["thing"] (zex K)
abbrev Γ7 := FnH P w K mg base 1 "fields_ascend" ["parts"] (zez)
abbrev Γ6 := FnH P w K mg base 4 "is_wish_part" ["thing"] (zdd)
abbrev Γ8 := FnH P w K mg base 5 "is_wish" ["thing"] (zew)
abbrev Γ10 := FnH P w K mg base 6 "are_wishes" ["thing"] (zgm)
abbrev Γ12 := FnH P w K mg base 1 "spans_by_field" ["wish"] (zdf)
abbrev Γ3 := FnH P w K mg base 1 "span_shared" ["one", "other"] (zeu)
abbrev Γ13 := FnH P w K mg base 2 "wish_shared" ["one", "other"] (zig)
abbrev Γ14 := FnH P w K mg base 1 "spans_beside" ["span", "inner"] (zb4)
abbrev Γ15 := FnH P w K mg base 3 "parts_beside_one" ["wish", "other"] (zdg)
abbrev Γ16 := FnH P w K mg base 4 "parts_beside" ["wish", "others"] (zgj)
abbrev Γ4 := FnH P w K mg base 1 "number_of" ["span"] (zgk)
abbrev Γ9 := FnH P w K mg base 6 "check_wish" ["thing"] (zdN)
abbrev Γ11 := FnH P w K mg base 7 "check_wishes" ["thing"] (zey)
abbrev Γ19 := FnH P w K mg base 1 "check_few" ["wishes", "fields"] (zkD)
abbrev Γ17 := FnH P w K mg base 5 "piece_beside" ["wish", "others"] (zb5)
abbrev Γ18 := FnH P w K mg base 1 "fields_of" ["wishes"] (zdh)
abbrev Γ22 := FnH P w K mg base 1 "_law_take" ["well", "many"] (zie)
abbrev Γ23 := FnH P w K mg base 2 "_law_name" ["well", "most"] (zif)
abbrev Γ25 := FnH P w K mg base 2 "_law_base" ["well"] (zik)
abbrev Γ27 := FnH P w K mg base 2 "_law_span" ["well", "grid", "wide"] (zgi)
abbrev Γ28 := FnH P w K mg base 3 "_law_wish" ["well", "names", "grid", "wide"] (zgg)
abbrev Γ30 := FnH P w K mg base 1 "_law_whole" ["thing"] (zde K)
abbrev Γ31 := FnH P w K mg base 1 "_law_wants" ["wish", "piece"] (zgh)
abbrev Γ21 := FnH P w K mg base 1 "_law_well" ["script"] (zid K)
abbrev Γ24 := FnH P w K mg base 3 "_law_fields" ["well", "many"] (zdM)
abbrev Γ26 := FnH P w K mg base 3 "_law_grid" ["well"] (zii)
abbrev Γ29 := FnH P w K mg base 4 "_law_wishes" ["well", "names", "grid", "wide", "many"] (zdL)
abbrev Γ20 := FnH P w K mg base 8 "uncovered_piece" ["wish", "wishes"] (zcL)
abbrev Γ32 := FnH P w K mg base 2 "_law_is_piece" ["thing"] (zih)
abbrev Γ35 := FnH P w K mg base 2 "_law_free" ["wish", "wishes", "piece"] (zij)
abbrev Γ34 := FnH P w K mg base 11 "_law_alike" ["found", "due"] (zhc 9 zev)
abbrev Γ33 := FnH P w K mg base 1 "_law_points" ["names", "grid", "wide"] (spPoints)
end
theorem zq2 : 2 ≤ sizeLine := by decide
theorem zq3 : 3 ≤ sizeLine := by decide
variable {f : Addr} {fd : FuncData} (B : Bl mg) {t_MOST_LETTERS : Tok} (C_MOST_LETTERS : mg "MOST_LETTERS" = some (.int 8 t_MOST_LETTERS)) {t_MOST_WISHES : Tok} (C_MOST_WISHES : mg "MOST_WISHES" = some (.int 7 t_MOST_WISHES)) {t_MOST_FIELDS : Tok} (C_MOST_FIELDS : mg "MOST_FIELDS" = some (.int 3 t_MOST_FIELDS))
include B C_MOST_LETTERS C_MOST_WISHES C_MOST_FIELDS
theorem zgG (F : Fun K "is_whole" "is_whole" zcz f fd)  : FnOk P w K mg base CX0 1 f fd ["thing"] (zde K) := by
 refine F.ok zgr (fun vs H Q E h => ?_) (fun cdv A outer s H vs Q E hr h => ?_)
 · obtain ⟨v, t, rfl, hty, q⟩ := h
   rfl
 obtain ⟨v, t, rfl, hty, q⟩ := h
 refine ⟨_, (zah (zap (zcG (zai (zaq (n := "")) rfl B.isinstance_ zak (zaa (pv 0) (zaa (zaD (v := .ty "int") rfl B.int_ zhs rfl) zac))) (zcg (zkj (zai (zaq (n := "")) rfl B.isinstance_ zak (zaa (pv 0) (zaa (zaD (v := .ty "bool") rfl B.bool_ ze9 rfl) zac)))))))), ?_⟩
 cases hty
 all_goals first
  | exact ⟨_, rfl, _, "int", "int", true, rfl, .int _, rfl, _, rfl, iteT ⟨_, rfl, _, "int", "bool", false, rfl, .int _, rfl, _, rfl, q⟩⟩
  | exact ⟨_, rfl, _, "bool", "int", true, rfl, .bl _, rfl, _, rfl, iteT ⟨_, rfl, _, "bool", "bool", true, rfl, .bl _, rfl, _, rfl, q⟩⟩
  | exact ⟨_, rfl, _, _, "int", false, rfl, (by first | exact .non | exact .str _ | exact .flt _ | (exact .lst (by assumption)) | (exact .frz (by assumption)) | (exact .tup (by assumption)) | (exact .dK (by assumption)) | (exact .dT (by assumption))), rfl, _, rfl, iteF q⟩
theorem ziE (F : Fun K "is_end" "is_end" zdC f fd) (G_is_whole : Γ0 P w K mg base) : FnOk P w K mg base CX0 2 f fd ["thing"] (zkE K) := by
 refine F.ok zio (fun vs H Q E h => ?_) (fun cdv A outer s H vs Q E hr h => ?_)
 · obtain ⟨v, t, rfl, hty, q⟩ := h
   rfl
 obtain ⟨v, t, rfl, hty, q⟩ := h
 refine ⟨_, (zah (zap (zkS (zfx (zcH (pv 0))) (zcg (zay G_is_whole (hr.mono (by decide)) rfl (zaa (pv 0) zac)))))), ?_⟩
 refine ⟨_, rfl, _, rfl, ?_⟩
 cases hty
 case non => exact iteT q
 all_goals refine iteF ?_
 case int i => exact ⟨_, rfl, _, _, rfl, .int _, q⟩
 all_goals exact ⟨_, rfl, _, _, rfl, (by first | exact .bl _ | exact .str _ | exact .flt _ | (exact .lst (by assumption)) | (exact .frz (by assumption)) | (exact .tup (by assumption)) | (exact .dK (by assumption)) | (exact .dT (by assumption))), q⟩
theorem zhM (F : Fun K "is_span" "is_span" zcU f fd) (G_is_end : Γ1 P w K mg base) : FnOk P w K mg base CX0 3 f fd ["thing"] (zex K) := by
 refine F.ok sc_is_span (fun vs H Q E h => ?_) (fun cdv A outer s H vs Q E hr h => ?_)
 · obtain ⟨v, t, rfl, hty, hp, q⟩ := h
   rfl
 obtain ⟨v, t, rfl, hty, hp, q⟩ := h
 refine ⟨_, (zad (zaK (PW.pt (zcW (zbl (zbb (zai (zaq (n := "")) rfl B.isinstance_ zak (zaa (pv 0) (zaa (zaD (v := .ty "tuple") rfl B.tuple_ zbi rfl) zac))))) (zcd (zav zfB (zai zau rfl B.len_ zba (zaa (pv 0) zac)) zaf (zaA _))))) (zah (zap zcF)) zas)
  (zad (zcX (pv 0) (zcf rfl (zam (zaj (i := 1) sc_is_span.nd rfl (Or.inl rfl)) (zam (zaj (i := 2) sc_is_span.nd rfl (Or.inl rfl)) za1))))
  (zad (zaK (PW.pt (zcW (zbl (zbb (zay G_is_end (hr.mono (by decide)) rfl (zaa (pv 1) zac)))) (zcd (zbl (zbb (zay G_is_end (hr.mono (by decide)) rfl (zaa (pv 2) zac))))))) (zah (zap zcF)) zas)
  (zah (zap (zkS (zfx (zcH (pv 1))) (zkS (zfx (zcH (pv 2))) (zcg (zcM zkU (pv 1) (pv 2) (zaA _)))))))))), ?_⟩
 have q0 : zbo H v = false → Q (.bl false) H := fun h => by rw [← h]; exact q
 cases hty
 case tup a xs e =>
  refine ⟨_, rfl, _, "tuple", "tuple", true, rfl, .tup e, rfl, _, rfl, iteF ⟨_, rfl, a, _, rfl, .inr (SqT.of e), rfl, _, rfl, ?_⟩⟩
  by_cases hl : xs.length = 2
  · match xs, hl with
    | [x, y], _ =>
     refine iteF ⟨_, rfl, a, _, rfl, SqT.of e, rfl, _, _, rfl, _, _, rfl, rfl, ?_⟩
     obtain ⟨t1, t2, h1, h2⟩ := hp a x y rfl e
     have es : zbo H (.ref a) = (endV x && endV y && leV x y) := by unfold zbo; simp only [e]
     rw [es] at q
     refine ⟨_, rfl, _, _, rfl, h1, _, rfl, ?_⟩
     cases ex : endV x with
     | false =>
      rw [ex] at q
      exact iteT q
     | true =>
      rw [ex] at q
      refine iteF ⟨_, rfl, _, _, rfl, h2, _, rfl, ?_⟩
      cases ey : endV y with
      | false =>
       rw [ey] at q
       exact iteT q
      | true =>
       rw [ey] at q
       refine iteF ⟨_, rfl, _, rfl, ?_⟩
       cases x with
       | non => exact iteT q
       | int i =>
        refine iteF ⟨_, rfl, _, rfl, ?_⟩
        cases y with
        | non => exact iteT q
        | int j => exact iteF ⟨_, rfl, _, rfl, _, _, rfl, rfl, q⟩
        | _ => exact absurd ey Bool.false_ne_true
       | _ => exact absurd ex Bool.false_ne_true
  · have es : zbo H (.ref a) = false := by
     unfold zbo
     simp only [e]
     match xs, hl with
     | [], _ => rfl
     | [_], _ => rfl
     | [_, _], h => exact absurd rfl h
     | _ :: _ :: _ :: _, _ => rfl
    have ed : (!decide (V.int ((xs.length : Nat) : Int) = V.int 2)) = true := by
     have : ¬ V.int ((xs.length : Nat) : Int) = V.int 2 := fun z => by injection z with z; omega
     rw [decide_eq_false this]
     rfl
    rw [es] at q
    show if (!decide (V.int ((xs.length : Nat) : Int) = V.int 2)) = true then _ else _
    rw [ed]
    exact iteT q
 case non => exact ⟨_, rfl, _, _, "tuple", false, rfl, .non, rfl, _, rfl, iteT (q0 rfl)⟩
 case bl b => exact ⟨_, rfl, _, _, "tuple", false, rfl, (.bl b), rfl, _, rfl, iteT (q0 rfl)⟩
 case int i => exact ⟨_, rfl, _, _, "tuple", false, rfl, (.int i), rfl, _, rfl, iteT (q0 rfl)⟩
 case str x => exact ⟨_, rfl, _, _, "tuple", false, rfl, (.str x), rfl, _, rfl, iteT (q0 rfl)⟩
 case flt x => exact ⟨_, rfl, _, _, "tuple", false, rfl, (.flt x), rfl, _, rfl, iteT (q0 rfl)⟩
 case lst a xs e => exact ⟨_, rfl, _, _, "tuple", false, rfl, (.lst e), rfl, _, rfl, iteT (q0 (by unfold zbo; simp only [e]))⟩
 case frz a o xs e => exact ⟨_, rfl, _, _, "tuple", false, rfl, (.frz e), rfl, _, rfl, iteT (q0 (by unfold zbo; simp only [e]))⟩
 case dK a kvs e => exact ⟨_, rfl, _, _, "tuple", false, rfl, (.dK e), rfl, _, rfl, iteT (q0 (by unfold zbo; simp only [e]))⟩
 case dT a kvs e => exact ⟨_, rfl, _, _, "tuple", false, rfl, (.dT e), rfl, _, rfl, iteT (q0 (by unfold zbo; simp only [e]))⟩
theorem zec (F : Fun K "span_shared" "span_shared" zaS f fd)  : FnOk P w K mg base CX0 1 f fd ["one", "other"] (zeu) := by
 refine F.ok sc_span_shared (fun vs H Q E h => ?_) (fun cdv A outer s H vs Q E hr h => ?_)
 · obtain ⟨v, w, lo, hi, lo2, hi2, rfl, S1, S2, q⟩ := h
   rfl
 obtain ⟨v, w, lo, hi, lo2, hi2, rfl, S1, S2, q⟩ := h
 refine ⟨_, (zad (zao (i := 2) sc_span_shared.nd rfl (Or.inl rfl) (zfy (zjq rfl) rfl B.max_ zku (zaa (zc0 (N' := ["end"]) (js := [none]) rfl (zbX (N := ["one", "other", "low", "high"]) (outer := zag zaS) (by decide +kernel)) (zcY (zaJ (zaa (zaG za9 (pv 0) zaf (fun _ _ => rfl)) (zaa (zaG za9 (pv 1) zaf (fun _ _ => rfl)) zac)))) (fun _ _ _ _ _ => (zaj (i := 0) (show List.Nodup (["end"] : List Str) by decide +kernel) rfl (Or.inl rfl))) (fun _ _ _ _ _ => zcb (zbI (zcn (pv 0)))) (fun _ _ _ _ _ => (pv 0))) zac) (ziy zcm zkh)))
  (zad (zao (i := 3) sc_span_shared.nd rfl (Or.inl rfl) (zfy (zjo rfl) rfl B.min_ zkt (zaa (zc0 (N' := ["end"]) (js := [none]) rfl (zbX (N := ["one", "other", "low", "high"]) (outer := zag zaS) (by decide +kernel)) (zcY (zaJ (zaa (zaG za9 (pv 0) zaf (fun _ _ => rfl)) (zaa (zaG za9 (pv 1) zaf (fun _ _ => rfl)) zac)))) (fun _ _ _ _ _ => (zaj (i := 0) (show List.Nodup (["end"] : List Str) by decide +kernel) rfl (Or.inl rfl))) (fun _ _ _ _ _ => zcb (zbI (zcn (pv 0)))) (fun _ _ _ _ _ => (pv 0))) zac) (ziy zcm zkh)))
  (zad (zaK (PW.pt (zfu (zbI (zcn (pv 2))) (zfu (zbI (zcn (pv 3))) (zeK (zav zgx (pv 2) (pv 3) (zaA _)))))) (zah (zap zcm)) zas)
  (zah (zap (zaJ (zaa (pv 2) (zaa (pv 3) zac)))))))), ?_⟩
 obtain ⟨a, rfl, e1⟩ := S1
 obtain ⟨c, rfl, e2⟩ := S2
 refine ⟨_, rfl, a, _, 0, _, rfl, rfl, SqT.of e1, rfl, _, rfl, c, _, 0, _, rfl, rfl, SqT.of e2, rfl, zq2, fun t ht => ⟨t, rfl, ⟨_, SqT.of zab⟩, fun p hp => ?_⟩⟩
 refine ziQ (os := [lo, lo2]) (cap := []) Option.isSome (by simp) (SqT.of zab) hp ?_ ?_ ?_ ?_ ?_
 · rfl
 · exact fun s => s.seqT (SqT.of zab)
 · exact fun o H' R s r => ⟨_, rfl, _, rfl, by rw [zfU]; exact r⟩
 · exact fun o H' R s r => ⟨_, rfl, r⟩
 intro H1 s1 h1
 obtain ⟨ns, n1, n2⟩ := zj5 lo lo2
 rw [n1] at h1
 refine ⟨p, ns, .non, rfl, rfl, SqL.of h1, ?_⟩
 rw [n2]
 have s2 : Same H H1 := (zae ht _).trans s1
 clear n1 n2 h1 hp s1 ht
 refine ⟨_, rfl, a, _, 1, _, rfl, rfl, SqT.of (s2 _ _ e1), rfl, _, rfl, c, _, 1, _, rfl, rfl, SqT.of (s2 _ _ e2), rfl, zq2, fun t ht => ⟨t, rfl, ⟨_, SqT.of zab⟩, fun p hp => ?_⟩⟩
 refine ziQ (os := [hi, hi2]) (cap := []) Option.isSome (by simp) (SqT.of zab) hp ?_ ?_ ?_ ?_ ?_
 · rfl
 · exact fun s => s.seqT (SqT.of zab)
 · exact fun o H' R s r => ⟨_, rfl, _, rfl, by rw [zfU]; exact r⟩
 · exact fun o H' R s r => ⟨_, rfl, r⟩
 intro H3 s3 h1
 obtain ⟨ns, n1, n2⟩ := zj4 hi hi2
 rw [n1] at h1
 refine ⟨p, ns, .non, rfl, rfl, SqL.of h1, ?_⟩
 rw [n2]
 have s4 : Same H H3 := s2.trans ((zae ht _).trans s3)
 clear n1 n2 h1 hp s3 ht
 have fin : apart (mLo lo lo2) (mHi hi hi2) = false → ∀ r, H3 r = none → Q (.ref r) (upd H3 r (.tup [eV (mLo lo lo2), eV (mHi hi hi2)])) := fun h r hr => by
  refine q _ _ (s4.trans (zae hr _)) ?_
  unfold zke
  rw [h]
  exact iteF ⟨r, rfl, zab⟩
 refine ⟨_, rfl, _, rfl, ?_⟩
 cases e5 : mLo lo lo2 with
 | none =>
  rw [e5] at fin
  exact iteF ⟨_, rfl, _, rfl, zq2, fin rfl⟩
 | some x =>
  refine iteT ⟨_, rfl, _, rfl, ?_⟩
  cases e6 : mHi hi hi2 with
  | none =>
   rw [e5, e6] at fin
   exact iteF ⟨_, rfl, _, rfl, zq2, fin rfl⟩
  | some y =>
   refine iteT ⟨_, rfl, _, rfl, _, _, rfl, rfl, _, rfl, ?_⟩
   rw [e5, e6] at fin
   refine ite2 (fun h => q _ _ s4 ?_) (fun h => ⟨_, rfl, _, rfl, zq2, fin (Bool.eq_false_iff.mpr h)⟩)
   unfold zke
   rw [e5, e6]
   exact (if_pos h).symm ▸ rfl
theorem zfE (F : Fun K "number_of" "number_of" zb6 f fd)  : FnOk P w K mg base CX0 1 f fd ["span"] (zgk) := by
 refine F.ok sc_number_of (fun vs H Q E h => ?_) (fun cdv A outer s H vs Q E hr h => ?_)
 · obtain ⟨v, lo, hi, rfl, S1, q⟩ := h
   rfl
 obtain ⟨v, lo, hi, rfl, S1, q⟩ := h
 refine ⟨_, (zad (zcX (pv 0) (zcf rfl (zam (zaj (i := 1) sc_number_of.nd rfl (Or.inl rfl)) (zam (zaj (i := 2) sc_number_of.nd rfl (Or.inl rfl)) za1))))
  (zad (zaK (zbI (zcn (pv 1))) (zah (zap (pv 1))) zas)
  (zad (zaK (zbI (zcn (pv 2))) (zah (zap (pv 2))) zas)
  (zah (zap zaf))))), ?_⟩
 obtain ⟨a, rfl, e1⟩ := S1
 refine ⟨_, rfl, a, _, rfl, SqT.of e1, rfl, _, _, rfl, _, _, rfl, rfl, ?_⟩
 cases lo with
 | some l => exact ⟨_, rfl, _, rfl, iteT ⟨_, rfl, q⟩⟩
 | none =>
  cases hi with
  | none => exact ⟨_, rfl, _, rfl, iteF ⟨_, rfl, _, rfl, iteF q⟩⟩
  | some h => exact ⟨_, rfl, _, rfl, iteF ⟨_, rfl, _, rfl, iteT ⟨_, rfl, q⟩⟩⟩
theorem zgH (F : Fun K "is_field" "is_field" zbS f fd)  : FnOk P w K mg base CX0 1 f fd ["thing"] (zgl) := by
 refine F.ok zgs (fun vs H Q E h => ?_) (fun cdv A outer s H vs Q E hr h => ?_)
 · obtain ⟨x, rfl, F1, q⟩ := h
   rfl
 obtain ⟨x, rfl, F1, q⟩ := h
 refine ⟨_, (zad (zaK (PW.pt (zcW (zbl (zbb (zai (zaq (n := "")) rfl B.isinstance_ zak (zaa (pv 0) (zaa (zaD (v := .ty "str") rfl B.str_ zhr rfl) zac))))) (zcd (zbl (zjJ zkU zkU zaf (zai zcp rfl B.len_ zba (zaa (pv 0) zac)) (zgw (v := .int 8) rfl C_MOST_LETTERS ⟨_, rfl⟩)))))) (zah (zap zcF)) zas)
  (zah (zap (zai (zdc rfl) rfl B.all_ zf2 (zaa (zc0 (N' := ["sign"]) (js := [none]) rfl (zbX (N := ["thing"]) (outer := zag zbS) (by decide +kernel)) (zki (pv 0)) (fun _ _ _ _ _ => (zaj (i := 0) (show List.Nodup (["sign"] : List Str) by decide +kernel) rfl (Or.inl rfl))) (fun _ _ _ _ _ => zaM) (fun _ _ _ _ _ => (zjO zdT zdT zdR (pv 0) zdR))) zac))))), ?_⟩
 have l1 : (1 : Int) ≤ (x.length : Int) := by have := F1.one; omega
 have l8 : (x.length : Int) ≤ 8 := by have := F1.eight; omega
 refine ⟨_, rfl, _, "str", "str", true, rfl, .str x, rfl, _, rfl, iteF ⟨_, rfl, x, rfl, zeA (by have := F1.eight; omega), _, _, rfl, rfl, _, rfl, ?_⟩⟩
 rw [decide_eq_true l1]
 refine iteT ⟨_, _, rfl, rfl, _, rfl, ?_⟩
 rw [decide_eq_true l8]
 refine iteF ⟨_, rfl, x, rfl, fun p hp => ?_⟩
 have s0 := zae hp (.lst [])
 have sl : (L2.signs x).length = x.length := by unfold L2.signs; rw [List.length_map, Array.length_toList]; rfl
 refine zko (xs := L2.signs x) (fun i σ' ys H' => (∃ v, σ' = [v]) ∧ Same H H' ∧ H' p = some (.lst ys) ∧ ys = List.replicate i (V.bl true)) ⟨⟨none, rfl⟩, s0, zab, rfl⟩ ?_ ?_ ?_
 · rintro i σ' ys H' hi ⟨_, _, h1, h2⟩
   refine ⟨h1, ?_⟩
   rw [h2, List.length_replicate]
   have := F1.eight
   exact zax (by omega)
 · rintro i y σ' ys H' N hy ⟨⟨v, rfl⟩, s, h1, h2⟩ hN
   unfold L2.signs at hy
   rw [List.getElem?_map] at hy
   cases hc : x.cps.toList[i]? with
   | none => rw [hc] at hy; cases hy
   | some c =>
    rw [hc] at hy
    obtain rfl : V.str ⟨#[c]⟩ = y := Option.some.inj hy
    have ok := F1.all c (List.mem_of_getElem? hc)
    refine ⟨_, rfl, _, _, rfl, rfl, _, rfl, ?_⟩
    rw [ge_a ok]
    refine iteT ⟨_, _, rfl, rfl, ?_⟩
    rw [le_z ok]
    refine ⟨h1, hN _ _ _ ⟨⟨_, rfl⟩, ?_, zab, by rw [h2]; exact List.replicate_succ'.symm⟩⟩
    intro b o q'
    have : b ≠ p := fun z => by rw [z, hp] at q'; cases q'
    rw [zan this]
    exact s b o q'
 · rintro σ' ys H' ⟨_, s, h1, h2⟩
   refine ⟨p, List.replicate (L2.signs x).length true, rfl, SqL.of (by rw [h1, h2, List.map_replicate]), ?_⟩
   have : (List.replicate (L2.signs x).length true).all id = true := by simp
   rw [this]
   exact q H' s
theorem zdZ (F : Fun K "is_wish_part" "is_wish_part" zbg f fd) (G_is_field : Γ5 P w K mg base) (G_is_span : Γ2 P w K mg base) : FnOk P w K mg base CX0 4 f fd ["thing"] (zdd) := by
 refine F.ok sc_is_wish_part (fun vs H Q E h => ?_) (fun cdv A outer s H vs Q E hr h => ?_)
 · obtain ⟨p, f, lo, hi, rfl, hp, F1, hle, q⟩ := h
   rfl
 obtain ⟨p, f, lo, hi, rfl, hp, F1, hle, q⟩ := h
 refine ⟨_, (zad (zaK (PW.pt (zcW (zbl (zbb (zai (zaq (n := "")) rfl B.isinstance_ zak (zaa (pv 0) (zaa (zaD (v := .ty "tuple") rfl B.tuple_ zbi rfl) zac))))) (zcd (zav zfB (zai zau rfl B.len_ zba (zaa (pv 0) zac)) zaf (zaA _))))) (zah (zap zcF)) zas)
  (zad (zcX (pv 0) (zcf rfl (zam (zaj (i := 1) sc_is_wish_part.nd rfl (Or.inl rfl)) (zam (zaj (i := 2) sc_is_wish_part.nd rfl (Or.inl rfl)) (zam (zaj (i := 3) sc_is_wish_part.nd rfl (Or.inl rfl)) za1)))))
  (zah (zap (zcG (zay G_is_field (hr.mono (by decide)) rfl (zaa (pv 1) zac)) (zcg (zay G_is_span (hr.mono (by decide)) rfl (zaa (zaJ (zaa (pv 2) (zaa (pv 3) zac))) zac)))))))), ?_⟩
 refine ⟨_, rfl, _, "tuple", "tuple", true, rfl, .tup hp, rfl, _, rfl, iteF ⟨_, rfl, p, _, rfl, .inr (SqT.of hp), rfl, _, rfl, ?_⟩⟩
 refine iteF ⟨_, rfl, p, _, rfl, SqT.of hp, rfl, _, _, rfl, _, _, rfl, _, _, rfl, rfl, ?_⟩
 refine ⟨_, rfl, f, rfl, F1, fun H1 s1 => ⟨_, rfl, iteT ⟨_, rfl, _, rfl, zq2, fun t ht => ?_⟩⟩⟩
 have S : SpanAt (upd H1 t (.tup [eV lo, eV hi])) (.ref t) lo hi := ⟨t, rfl, zab⟩
 refine ⟨.ref t, "tuple", rfl, S.ty.1, S.ty.2, ?_⟩
 rw [zi0 S, hle]
 exact q _ (s1.trans (zae ht _))
theorem zdz (F : Fun K "fields_ascend" "fields_ascend" zaQ f fd)  : FnOk P w K mg base CX0 1 f fd ["parts"] (zez) := by
 refine F.ok zdy (fun vs H Q E h => ?_) (fun cdv A outer s H vs Q E hr h => ?_)
 · obtain ⟨a, ps, rfl, ha, hl, hp, hlt, q⟩ := h
   rfl
 obtain ⟨a, ps, rfl, ha, hl, hp, hlt, q⟩ := h
 refine ⟨_, (zah (zap (zai (zdc rfl) rfl B.all_ zf2 (zaa (zc0 (N' := ["ahead", "behind"]) (js := [none, none]) rfl (zbX (N := ["parts"]) (outer := zag zaQ) (by decide +kernel)) (zlq rfl B.zip_ (zaa (pv 0) (zaa (zaZ zil (pv 0) (zbm zaf) zbn) zac))) (fun _ _ _ _ _ => (zeO K rfl (n := 2) rfl (zam (zaj (i := 0) (show List.Nodup (["ahead", "behind"] : List Str) by decide +kernel) rfl (Or.inl rfl)) (zam (zaj (i := 1) (show List.Nodup (["ahead", "behind"] : List Str) by decide +kernel) rfl (Or.inl rfl)) za1)))) (fun _ _ _ _ _ => zaM) (fun _ _ _ _ _ => (zcM ziD (zaG (zdn K rfl) (pv 0) zaf (fun _ _ => rfl)) (zaG (zdn K rfl) (pv 1) zaf (fun _ _ => rfl)) (zaA _)))) zac)))), ?_⟩
 refine ⟨_, rfl, _, rfl, _, rfl, ?_⟩
 dsimp only [zib]
 refine zkF (SqT.of ha) fun p1 H1 s1 q1 => ?_
 refine ⟨a, p1, rfl, ⟨_, s1.seqT (SqT.of ha)⟩, ⟨_, q1⟩, fun p hp' => ?_⟩
 have s0 := zae hp' (.lst [])
 have ld : ((ps.map fun p => V.ref p.1).drop 1).length = ps.length - 1 := by rw [List.length_drop, List.length_map]
 refine zlz (n := ps.length - 1) (xs := ps.map fun p => V.ref p.1) (ys := (ps.map fun p => V.ref p.1).drop 1) (by rw [List.length_map]; omega) (by rw [ld]; exact Nat.le_refl _) (.inr (by rw [ld]; exact Nat.le_refl _))
  (fun i σ' ys H' => (∃ v w, σ' = [v, w]) ∧ Same H1 H' ∧ H' p = some (.lst ys) ∧ ys = List.replicate i (V.bl true)) ⟨⟨none, none, rfl⟩, s0, zab, rfl⟩ ?_ ?_ ?_
 · rintro i σ' zs H' hi ⟨_, s, h1, h2⟩
   refine ⟨(s1.trans s).seqT (SqT.of ha), s.seqT q1, h1, ?_⟩
   rw [h2, List.length_replicate]
   exact zax (by omega)
 · rintro i x y σ' zs H' r N hx hy hr' ⟨⟨v, w', rfl⟩, s, h1, h2⟩ hN
   rw [List.getElem?_map] at hx
   rw [List.getElem?_drop, List.getElem?_map, Nat.add_comm] at hy
   cases e1 : ps[i]? with
   | none => rw [e1] at hx; cases hx
   | some P1 =>
    cases e2 : ps[i + 1]? with
    | none => rw [e2] at hy; cases hy
    | some P2 =>
     rw [e1] at hx
     rw [e2] at hy
     obtain rfl : V.ref P1.1 = x := Option.some.inj hx
     obtain rfl : V.ref P2.1 = y := Option.some.inj hy
     have s3 := zae hr' (.tup [V.ref P1.1, V.ref P2.1])
     have t3 := (s1.trans s).trans s3
     have f1 := t3 _ _ (hp P1 (List.mem_of_getElem? e1))
     have f2 := t3 _ _ (hp P2 (List.mem_of_getElem? e2))
     refine ⟨r, _, rfl, SqT.of zab, rfl, _, _, rfl, _, _, rfl, rfl, ?_⟩
     refine ⟨_, rfl, P1.1, _, 0, _, rfl, rfl, SqT.of f1, at0, _, rfl, P2.1, _, 0, _, rfl, rfl, SqT.of f2, at0, _, _, rfl, rfl, ?_⟩
     rw [decide_eq_true (show P1.2.1.cps.toList < P2.2.1.cps.toList from hlt i P1 P2 e1 e2)]
     refine ⟨s3 _ _ h1, hN _ _ _ ⟨⟨_, _, rfl⟩, ?_, zab, by rw [h2]; exact List.replicate_succ'.symm⟩⟩
     intro b o q'
     have : b ≠ p := fun z => by rw [z, hp'] at q'; cases q'
     rw [zan this]
     exact s3 _ _ (s b o q')
 · rintro σ' zs H' ⟨_, s, h1, h2⟩
   refine ⟨p, List.replicate (ps.length - 1) true, rfl, SqL.of (by rw [h1, h2, List.map_replicate]), ?_⟩
   have : (List.replicate (ps.length - 1) true).all id = true := by simp
   rw [this]
   exact q H' (s1.trans s)
theorem zhL (F : Fun K "is_wish" "is_wish" zck f fd) (G_fields_ascend : Γ7 P w K mg base) (G_is_wish_part : Γ6 P w K mg base) : FnOk P w K mg base CX0 5 f fd ["thing"] (zew) := by
 refine F.ok zhD (fun vs H Q E h => ?_) (fun cdv A outer s H vs Q E hr h => ?_)
 · obtain ⟨a, w', rfl, hw, wok, q⟩ := h
   rfl
 obtain ⟨a, w', rfl, hw, wok, q⟩ := h
 refine ⟨_, (zad (zaK (zbl (zbb (zai (zaq (n := "")) rfl B.isinstance_ zak (zaa (pv 0) (zaa (zaD (v := .ty "tuple") rfl B.tuple_ zbi rfl) zac))))) (zah (zap zcF)) zas)
  (zah (zap (zcG (zai (zdc rfl) rfl B.all_ zf2 (zaa (zc0 (N' := ["part"]) (js := [none]) rfl (zbX (N := ["thing"]) (outer := zag zck) (by decide +kernel)) (zcY (pv 0)) (fun _ _ _ _ _ => (zaj (i := 0) (show List.Nodup (["part"] : List Str) by decide +kernel) rfl (Or.inl rfl))) (fun _ _ _ _ _ => zaM) (fun _ _ _ _ _ => (zay G_is_wish_part (hr.mono (by decide)) rfl (zaa (pv 0) zac)))) zac)) (zcg (zay G_fields_ascend (hr.mono (by decide)) rfl (zaa (pv 0) zac))))))), ?_⟩
 obtain ⟨ps, rfl, hA, hP⟩ := hw
 have ll : ps.length ≤ 100 := by have := wok.len; rw [List.length_map] at this; exact this
 refine ⟨_, rfl, _, "tuple", "tuple", true, rfl, .tup hA, rfl, _, rfl, iteF ?_⟩
 refine ⟨_, rfl, a, rfl, ⟨_, SqT.of hA⟩, fun p hp => ?_⟩
 refine ziO (xs := ps.map fun p => V.ref p.1) (fun i σ' ys H' => (∃ v, σ' = [v]) ∧ Same H H' ∧ H' p = some (.lst ys) ∧ ys = List.replicate i (V.bl true)) ⟨⟨none, rfl⟩, zae hp _, zab, rfl⟩ ?_ ?_ ?_
 · rintro i σ' ys H' hi ⟨_, s, h1, h2⟩
   refine ⟨s.seqT (SqT.of hA), h1, ?_⟩
   rw [h2, List.length_replicate]
   rw [List.length_map] at hi
   exact zax (by omega)
 · rintro i x σ' ys H' N hx ⟨⟨v, rfl⟩, s, h1, h2⟩ hN
   rw [List.getElem?_map] at hx
   cases e1 : ps[i]? with
   | none => rw [e1] at hx; cases hx
   | some P1 =>
    rw [e1] at hx
    obtain rfl : V.ref P1.1 = x := Option.some.inj hx
    have hm := List.mem_of_getElem? e1
    obtain ⟨o1, o2⟩ := wok.ok P1.2 (List.mem_map_of_mem hm)
    refine ⟨_, rfl, P1.1, P1.2.1, P1.2.2.1, P1.2.2.2, rfl, s _ _ (hP P1 hm), o1, o2, fun H2 s2 => ?_⟩
    refine ⟨s2 _ _ h1, hN _ _ _ ⟨⟨_, rfl⟩, zbL (s.trans s2) hp, zab, by rw [h2]; exact List.replicate_succ'.symm⟩⟩
 · rintro σ' ys H' ⟨_, s, h1, h2⟩
   refine ⟨p, List.replicate (ps.map fun p => V.ref p.1).length true, rfl, SqL.of (by rw [h1, h2, List.map_replicate]), _, rfl, ?_⟩
   rw [show (List.replicate (ps.map fun p => V.ref p.1).length true).all id = true by simp]
   refine iteT ⟨_, rfl, a, ps.map (fun p => (p.1, p.2.1, [eV p.2.2.1, eV p.2.2.2])), rfl, ?_, by rw [List.length_map]; exact ll, ?_, ?_, fun H2 s2 => q H2 (s.trans s2)⟩
   · rw [List.map_map]; exact s _ _ hA
   · intro r hr
     rw [List.mem_map] at hr
     obtain ⟨P1, hm, rfl⟩ := hr
     exact s _ _ (hP P1 hm)
   · intro i r1 r2 h3 h4
     rw [List.getElem?_map] at h3 h4
     cases e1 : ps[i]? with
     | none => rw [e1] at h3; cases h3
     | some P1 =>
      cases e2 : ps[i + 1]? with
      | none => rw [e2] at h4; cases h4
      | some P2 =>
       rw [e1] at h3
       rw [e2] at h4
       obtain rfl := Option.some.inj h3
       obtain rfl := Option.some.inj h4
       have l2 := (List.getElem?_eq_some_iff.mp e2).1
       have := List.pairwise_iff_getElem.mp wok.asc i (i + 1) (by simp; omega) (by simp; omega) (by omega)
       simp only [List.getElem_map] at this
       rw [(List.getElem?_eq_some_iff.mp e1).2, (List.getElem?_eq_some_iff.mp e2).2] at this
       exact this
theorem zeU (F : Fun K "check_wish" "check_wish" zbH f fd) (G_is_wish : Γ8 P w K mg base) : FnOk P w K mg base CX0 6 f fd ["thing"] (zdN) := by
 refine F.ok zeF (fun vs H Q E h => ?_) (fun cdv A outer s H vs Q E hr h => ?_)
 · obtain ⟨a, w', rfl, hw, wok, q⟩ := h
   rfl
 obtain ⟨a, w', rfl, hw, wok, q⟩ := h
 refine ⟨_, (zah (zaK (zbl (zbb (zay G_is_wish (hr.mono (by decide)) rfl (zaa (pv 0) zac)))) (zah zdE) zas)), ?_⟩
 exact ⟨_, rfl, a, w', rfl, hw, wok, fun H' s => ⟨_, rfl, iteF (q H' s)⟩⟩
theorem zeV (F : Fun K "are_wishes" "are_wishes" zbj f fd) (G_is_wish : Γ8 P w K mg base) : FnOk P w K mg base CX0 6 f fd ["thing"] (zgm) := by
 refine F.ok zeG (fun vs H Q E h => ?_) (fun cdv A outer s H vs Q E hr h => ?_)
 · obtain ⟨l, ws, rfl, hw, q⟩ := h
   rfl
 obtain ⟨l, ws, rfl, hw, q⟩ := h
 refine ⟨_, (zah (zap (zcG (zai (zaq (n := "")) rfl B.isinstance_ zak (zaa (pv 0) (zaa (zaD (v := .ty "list") rfl B.list_ zcP rfl) zac))) (zcg (zai (zdc rfl) rfl B.all_ zf2 (zaa (zc0 (N' := ["wish"]) (js := [none]) rfl (zbX (N := ["thing"]) (outer := zag zbj) (by decide +kernel)) (zaT (pv 0)) (fun _ _ _ _ _ => (zaj (i := 0) (show List.Nodup (["wish"] : List Str) by decide +kernel) rfl (Or.inl rfl))) (fun _ _ _ _ _ => zaM) (fun _ _ _ _ _ => (zay G_is_wish (hr.mono (by decide)) rfl (zaa (pv 0) zac)))) zac)))))), ?_⟩
 have hA := hw.at'
 refine ⟨_, rfl, _, "list", "list", true, rfl, .lst hA, rfl, _, rfl, iteT ?_⟩
 refine ⟨_, rfl, l, rfl, ⟨_, SqL.of hA⟩, fun p hp => ?_⟩
 refine zdm (xs := ws.map fun x => V.ref x.1) (fun i σ' ys H' => (∃ v, σ' = [v]) ∧ Same H H' ∧ H' p = some (.lst ys) ∧ ys = List.replicate i (V.bl true)) ⟨⟨none, rfl⟩, zae hp _, zab, rfl⟩ ?_ ?_ ?_
 · rintro i σ' ys H' hi ⟨_, s, h1, h2⟩
   refine ⟨s.seq (SqL.of hA), h1, ?_⟩
   rw [h2, List.length_replicate]
   rw [List.length_map] at hi
   have := hw.len
   exact zax (by omega)
 · rintro i x σ' ys H' N hx ⟨⟨v, rfl⟩, s, h1, h2⟩ hN
   rw [List.getElem?_map] at hx
   cases e1 : ws[i]? with
   | none => rw [e1] at hx; cases hx
   | some P1 =>
    rw [e1] at hx
    obtain rfl : V.ref P1.1 = x := Option.some.inj hx
    obtain ⟨o1, o2⟩ := hw.ok P1 (List.mem_of_getElem? e1)
    refine ⟨_, rfl, P1.1, P1.2, rfl, o1.same s, o2, fun H2 s2 => ?_⟩
    refine ⟨s2 _ _ h1, hN _ _ _ ⟨⟨_, rfl⟩, zbL (s.trans s2) hp, zab, by rw [h2]; exact List.replicate_succ'.symm⟩⟩
 · rintro σ' ys H' ⟨_, s, h1, h2⟩
   refine ⟨p, List.replicate (ws.map fun x => V.ref x.1).length true, rfl, SqL.of (by rw [h1, h2, List.map_replicate]), ?_⟩
   rw [show (List.replicate (ws.map fun x => V.ref x.1).length true).all id = true by simp]
   exact q _ s
theorem zd0 (F : Fun K "check_wishes" "check_wishes" zbh f fd) (G_are_wishes : Γ10 P w K mg base) : FnOk P w K mg base CX0 7 f fd ["thing"] (zey) := by
 refine F.ok zdO (fun vs H Q E h => ?_) (fun cdv A outer s H vs Q E hr h => ?_)
 · obtain ⟨l, ws, rfl, hw, q⟩ := h
   rfl
 obtain ⟨l, ws, rfl, hw, q⟩ := h
 refine ⟨_, (zah (zaK (zbl (zbb (zay G_are_wishes (hr.mono (by decide)) rfl (zaa (pv 0) zac)))) (zah zdE) zas)), ?_⟩
 exact ⟨_, rfl, l, ws, rfl, hw, fun H' s => ⟨_, rfl, iteF (q H' s)⟩⟩
theorem zdl (F : Fun K "spans_by_field" "spans_by_field" zaO f fd)  : FnOk P w K mg base CX0 1 f fd ["wish"] (zdf) := by
 refine F.ok zdi (fun vs H Q E h => ?_) (fun cdv A outer s H vs Q E hr h => ?_)
 · obtain ⟨a, w', rfl, hw, wok, q⟩ := h
   rfl
 obtain ⟨a, w', rfl, hw, wok, q⟩ := h
 refine ⟨_, (zah (zap (zl6 (N' := ["field", "low", "high"]) (js := [none, none, none]) rfl (zbX (N := ["wish"]) (outer := zag zaO) (by decide +kernel)) (zcY (pv 0)) (fun _ _ _ _ _ => (zeO K rfl (n := 3) rfl (zam (zaj (i := 0) (show List.Nodup (["field", "low", "high"] : List Str) by decide +kernel) rfl (Or.inl rfl)) (zam (zaj (i := 1) (show List.Nodup (["field", "low", "high"] : List Str) by decide +kernel) rfl (Or.inl rfl)) (zam (zaj (i := 2) (show List.Nodup (["field", "low", "high"] : List Str) by decide +kernel) rfl (Or.inl rfl)) za1))))) (fun _ _ _ _ _ => zaM) (fun _ _ _ _ _ => (pv 0)) (fun _ _ _ _ _ => (zaJ (zaa (pv 1) (zaa (pv 2) zac))))))), ?_⟩
 obtain ⟨ps, rfl, hA, hP⟩ := hw
 have ll : ps.length ≤ 100 := by have := wok.len; rw [List.length_map] at this; exact this
 refine ⟨_, rfl, a, rfl, ⟨_, SqT.of hA⟩, fun d hd => ?_⟩
 refine zlM (xs := ps.map fun p => V.ref p.1) (fun i σ' kvs H' => (∃ v1 v2 v3, σ' = [v1, v2, v3]) ∧ Same H H' ∧ H' d = some (.dK kvs) ∧ kvs.length ≤ i ∧ (∃ bs, kvs = kvS bs ∧ bs.map (·.1) = ((ps.map (·.2)).take i).map (·.1)) ∧ ∀ f : Str, match zal ((ps.map (·.2)).take i) f with
  | none => valV kvs (.inr f) = none
  | some s => ∃ t, valV kvs (.inr f) = some (.ref t) ∧ H' t = some (.tup [eV s.1, eV s.2])) ⟨⟨none, none, none, rfl⟩, zae hd _, zab, Nat.zero_le _, ⟨[], rfl, rfl⟩, fun f => rfl⟩ ?_ ?_ ?_
 · rintro i σ' kvs H' hi ⟨_, s, h1, h2, _⟩
   rw [List.length_map] at hi
   exact ⟨s.seqT (SqT.of hA), h1, zax (by omega)⟩
 · rintro i x σ' kvs H' N hx ⟨⟨v1, v2, v3, rfl⟩, s, h1, h2, ⟨bs, rfl, kb⟩, h3⟩ hN
   rw [List.getElem?_map] at hx
   cases e1 : ps[i]? with
   | none => rw [e1] at hx; cases hx
   | some P1 =>
    rw [e1] at hx
    obtain rfl : V.ref P1.1 = x := Option.some.inj hx
    have hm := List.mem_of_getElem? e1
    refine ⟨P1.1, _, rfl, SqT.of (s _ _ (hP P1 hm)), rfl, _, _, rfl, _, _, rfl, _, _, rfl, rfl, ?_⟩
    refine ⟨_, rfl, _, rfl, _, rfl, zq2, fun u hu => ?_⟩
    have su := zae hu (.tup [eV P1.2.2.1, eV P1.2.2.2])
    have eu : (upd H' u (.tup [eV P1.2.2.1, eV P1.2.2.2])) u = some (.tup [eV P1.2.2.1, eV P1.2.2.2]) := zab
    have h1' := su _ _ h1
    generalize upd H' u (.tup [eV P1.2.2.1, eV P1.2.2.2]) = H2 at *
    have du : u ≠ d := zed eu h1' (by intro z; cases z)
    refine ⟨Sum.inr P1.2.1, rfl, h1', hN _ _ _ ⟨⟨_, _, _, rfl⟩, zbL (s.trans su) hd, zab, ?_, ⟨putS bs P1.2.1 (V.ref u), zeL _ _ _, ?_⟩, fun f => ?_⟩⟩
    · have := zbz (kvS bs) (Sum.inr P1.2.1 : Key) (V.ref u)
      omega
    · have ew : (ps.map (·.2))[i]? = some P1.2 := by rw [List.getElem?_map, e1]; rfl
      have fr := zfj (wok.fresh ew)
      rw [zfv, if_neg, kb, zaw ew, List.map_append]
      · rfl
      · rw [kb]
        intro z
        obtain ⟨y, hy, ey⟩ := List.mem_map.mp z
        exact fr y hy ey
    · have ew : (ps.map (·.2))[i]? = some P1.2 := by rw [List.getElem?_map, e1]; rfl
      have fr := wok.fresh ew
      rw [zaw ew, zdK _ _ _ fr, zeq]
      by_cases hf : f = P1.2.1
      · subst hf
        rw [if_pos rfl, if_pos rfl]
        exact ⟨u, rfl, by rw [zan du]; exact eu⟩
      · rw [if_neg hf, if_neg (fun z => hf (by injection z))]
        have := h3 f
        cases hs : zal ((ps.map (·.2)).take i) f with
        | none => rw [hs] at this; exact this
        | some sp =>
         rw [hs] at this
         obtain ⟨t, t1, t2⟩ := this
         exact ⟨t, t1, by rw [zan (zed (su _ _ t2) h1' (by intro z; cases z))]; exact su _ _ t2⟩
 · rintro σ' kvs H' ⟨_, s, h1, h2, ⟨bs, rfl, kb⟩, h3⟩
   have et : (ps.map (·.2)).take (ps.map fun p => V.ref p.1).length = ps.map (·.2) := List.take_of_length_le (by simp)
   rw [et] at kb
   refine q d H' s hd ⟨bs, h1, kb, fun f => ?_⟩
   have := h3 f
   rw [et] at this
   rw [zcs] at this
   exact this
theorem zeb (F : Fun K "wish_shared" "wish_shared" za6 f fd) (G_spans_by_field : Γ12 P w K mg base) (G_span_shared : Γ3 P w K mg base) : FnOk P w K mg base CX0 2 f fd ["one", "other"] (zig) := by
 refine F.ok sc_wish_shared (fun vs H Q E h => ?_) (fun cdv A outer s H vs Q E hr h => ?_)
 · obtain ⟨a, b, w1, w2, rfl, hw1, hw2, ok1, ok2, hl, qN, qS⟩ := h
   rfl
 obtain ⟨a, b, w1, w2, rfl, hw1, hw2, ok1, ok2, hl, qN, qS⟩ := h
 refine ⟨_, (zad (zao (i := 2) sc_wish_shared.nd rfl (Or.inr rfl) (zay G_spans_by_field (hr.mono (by decide)) rfl (zaa (pv 0) zac)))
  (zad (zce PassesOwn.never rfl (zcY (pv 1)) (zcf rfl (zam (zaj (i := 3) sc_wish_shared.nd rfl (Or.inl rfl)) (zam (zaj (i := 4) sc_wish_shared.nd rfl (Or.inl rfl)) (zam (zaj (i := 5) sc_wish_shared.nd rfl (Or.inl rfl)) za1)))) (zad (zao (i := 6) sc_wish_shared.nd rfl (Or.inl rfl) (zay G_span_shared (hr.mono (by decide)) rfl (zaa (zjN (zgW hr) (pv 2) (pv 3) (zaJ (zaa zcm (zaa zcm zac))) ⟨rfl, rfl, rfl, rfl⟩) (zaa (zaJ (zaa (pv 4) (zaa (pv 5) zac))) zac))))
  (zad (zaK (zbI (zcH (pv 6))) (zah (zap zcm)) zas)
  (zah (zkQ (zgW hr) (pv 2) (pv 3) (pv 6) rfl)))))
  (zah (zap (zbT zcc rfl B.tuple_ zbi (zaa (zc0 (N' := ["field", "met"]) (js := [none, some 2]) rfl (zbX (N := ["one", "other", "met", "field", "low", "high", "shared"]) (outer := zag za6) (by decide +kernel)) (zaT (zai (ze7 rfl) rfl B.sorted_ zea (zaa (pv 2) zac))) (fun _ _ _ _ _ => (zaj (i := 0) (show List.Nodup (["field", "met"] : List Str) by decide +kernel) rfl (Or.inl rfl))) (fun _ _ _ _ _ => zaM) (fun _ _ _ _ _ => (zaJ (zaa (pv 0) (zaa (zaG (zdn K rfl) (zeP (zgW hr) (pv 1) (pv 0) (fun _ _ => rfl)) zaf (fun _ _ => rfl)) (zaa (zaG (zdn K rfl) (zeP (zgW hr) (pv 1) (pv 0) (fun _ _ => rfl)) zaf (fun _ _ => rfl)) zac)))))) zac)))))), ?_⟩
 refine ⟨_, rfl, a, w1, rfl, hw1, ok1, fun d H1 s1 n1 D1 => ?_⟩
 obtain ⟨bs0, b1, b2, b3⟩ := D1
 obtain ⟨ps, rfl, hA, hP⟩ := hw2.same s1
 have bd : b ≠ d := zed hA b1 (by intro z; cases z)
 have pd : ∀ p ∈ ps, p.1 ≠ d := fun p hp => zed (hP p hp) b1 (by intro z; cases z)
 refine ⟨_, rfl, b, rfl, ⟨_, SqT.of hA⟩, zgX (K := K) (a := b) (xs := ps.map fun p => V.ref p.1) (fun i σ H' => (∃ y3 y4 y5 y6, σ = [some (.ref a), some (.ref b), some (.ref d), y3, y4, y5, y6]) ∧ (∀ c o, H1 c = some o → c ≠ d → H' c = some o) ∧ ∃ bs : List (Str × V), H' d = some (.dK (kvS bs)) ∧ (bs.map (·.1)).Nodup ∧ bs.length ≤ w1.length + i ∧ zbZ w1 ((ps.map (·.2)).take i) = false ∧
  ∀ f : Str, match metO (zal w1 f) (zal ((ps.map (·.2)).take i) f) with
   | none => getS bs f = none
   | some s => ∃ t, getS bs f = some (.ref t) ∧ H' t = some (.tup [eV s.1, eV s.2])) ?_ ?_ ?_ ?_⟩
 · refine ⟨⟨none, none, none, none, rfl⟩, fun c o h _ => h, bs0, b1, ?_, ?_, rfl, fun f => ?_⟩
   · rw [b2]; exact zf8 ok1.asc
   · have := congrArg List.length b2; simp at this; omega
   · have := b3 f
     cases e : zal w1 f with
     | none => rw [e] at this; exact this
     | some s => rw [e] at this; exact this
 · rintro i σ H' _ ⟨_, kp, _⟩
   exact SqT.of (kp _ _ hA bd)
 · rintro i x σ H2 hx ⟨⟨y3, y4, y5, y6, rfl⟩, kp, bs, k1, k2, k3, k4, k5⟩
   rw [List.getElem?_map] at hx
   cases e1 : ps[i]? with
   | none => rw [e1] at hx; cases hx
   | some P1 =>
    rw [e1] at hx
    obtain rfl : V.ref P1.1 = x := Option.some.inj hx
    have hm := List.mem_of_getElem? e1
    have li := (List.getElem?_eq_some_iff.mp e1).1
    have ew : (ps.map (·.2))[i]? = some P1.2 := by rw [List.getElem?_map, e1]; rfl
    have fr := ok2.fresh ew
    have kf := k5 P1.2.1
    rw [fr] at kf
    refine ⟨P1.1, _, rfl, SqT.of (kp _ _ (hP P1 hm) (pd P1 hm)), rfl, _, _, rfl, _, _, rfl, _, _, rfl, rfl, ?_⟩
    refine ⟨_, rfl, d, rfl, .inl ⟨kvS bs, .inl k1⟩, _, rfl, zq2, fun v hv => ?_⟩
    have sv := zae hv (.tup [V.non, V.non])
    have ev : (upd H2 v (.tup [V.non, V.non])) v = some (.tup [V.non, V.non]) := zab
    have k1v := sv _ _ k1
    generalize upd H2 v (.tup [V.non, V.non]) = H3 at *
    have gd := DGet.k (k := Sum.inr P1.2.1) k1v
    rw [zcs] at gd
    obtain ⟨sp, esp, tt, ett, htt⟩ : ∃ sp : SPN, (zal w1 P1.2.1).getD (none, none) = sp ∧ ∃ tt, (getS bs P1.2.1).getD (.ref v) = .ref tt ∧ H3 tt = some (.tup [eV sp.1, eV sp.2]) := by
     cases hs : zal w1 P1.2.1 with
     | none => rw [hs] at kf; rw [show getS bs P1.2.1 = none from kf]; exact ⟨(none, none), rfl, v, rfl, ev⟩
     | some sp => rw [hs] at kf; obtain ⟨t, z1, z2⟩ := kf; rw [z1]; exact ⟨sp, rfl, t, rfl, sv _ _ z2⟩
    refine ⟨_, gd, ?_⟩
    rw [ett]
    refine ⟨_, rfl, _, rfl, zq2, fun u hu => ?_⟩
    have su := zae hu (.tup [eV P1.2.2.1, eV P1.2.2.2])
    refine ⟨.ref tt, .ref u, sp.1, sp.2, P1.2.2.1, P1.2.2.2, rfl, ⟨tt, rfl, su _ _ htt⟩, ⟨u, rfl, zab⟩, fun v' H4 s4 m4 => ?_⟩
    have s24 : Same H2 H4 := sv.trans (su.trans s4)
    have sH4 : Same H H4 := fun c o h => s24 _ _ (kp _ _ (s1 _ _ h) (fun e => by rw [e, n1] at h; cases h))
    have le1 := (ok2.ok P1.2 (List.mem_map_of_mem hm)).2
    unfold zke at m4
    by_cases ap : apart (mLo sp.1 P1.2.2.1) (mHi sp.2 P1.2.2.2) = true
    · rw [if_pos ap] at m4
      subst m4
      have aw : zbZ w1 (ps.map (·.2)) = true := by
       refine List.any_eq_true.mpr ⟨P1.2, List.mem_map_of_mem hm, ?_⟩
       unfold zf9
       cases hs : zal w1 P1.2.1 with
       | none =>
        rw [hs] at esp
        subst esp
        have : apart P1.2.2.1 P1.2.2.2 = true := ap
        rw [zfM, this] at le1
        cases le1
       | some s =>
        rw [hs] at esp
        obtain rfl : s = sp := esp
        exact ap
      exact ⟨_, rfl, _, rfl, iteT (qN aw _ sH4)⟩
    · rw [if_neg ap] at m4
      obtain ⟨t4, rfl, e4⟩ := m4
      have k14 := s24 _ _ k1
      have td : t4 ≠ d := zed e4 k14 (by intro z; cases z)
      refine ⟨_, rfl, _, rfl, iteF ⟨_, rfl, _, rfl, _, rfl, d, _, rfl, DPut.k (k := Sum.inr P1.2.1) k14 (zax (by unfold kvS; rw [List.length_map]; have := ok1.len; have := ok2.len; simp at this; omega)), ⟨_, _, _, _, rfl⟩, fun c o h cd => by rw [zan cd]; exact s24 _ _ (kp c o h cd), putS bs P1.2.1 (V.ref t4), by rw [zab, zeL], zhG k2 _ _, ?_, ?_, fun f => ?_⟩⟩
      · have := zjH bs P1.2.1 (V.ref t4); omega
      · rw [zaw ew]
        unfold zbZ at k4 ⊢
        rw [List.any_append, k4]
        simp only [List.any_cons, List.any_nil, Bool.or_false, Bool.false_or]
        unfold zf9
        cases hs : zal w1 P1.2.1 with
        | none => rfl
        | some s =>
         rw [hs] at esp
         obtain rfl : s = sp := esp
         simpa using ap
      · rw [zaw ew, zdK _ _ _ fr, zj1]
        by_cases hf : f = P1.2.1
        · subst hf
          rw [if_pos rfl, if_pos rfl]
          have em : metO (zal w1 P1.2.1) (some P1.2.2) = some (mLo sp.1 P1.2.2.1, mHi sp.2 P1.2.2.2) := by
           cases hs : zal w1 P1.2.1 with
           | none => rw [hs] at esp; subst esp; rfl
           | some s => rw [hs] at esp; obtain rfl : s = sp := esp; rfl
          rw [em]
          exact ⟨t4, rfl, by rw [zan td]; exact e4⟩
        · rw [if_neg hf, if_neg hf]
          have := k5 f
          cases hs : metO (zal w1 f) (zal ((ps.map (·.2)).take i) f) with
          | none => rw [hs] at this; exact this
          | some s =>
           rw [hs] at this
           obtain ⟨t, t1, t2⟩ := this
           exact ⟨t, t1, by rw [zan (zed (s24 _ _ t2) k14 (by intro z; cases z))]; exact s24 _ _ t2⟩
 · rintro σ H2 ⟨⟨y3, y4, y5, y6, rfl⟩, kp, bs, k1, k2, k3, k4, k5⟩
   have et : (ps.map (·.2)).take (ps.map fun p => V.ref p.1).length = ps.map (·.2) := List.take_of_length_le (by simp)
   rw [et] at k4 k5
   have lb : bs.length ≤ 60 := by simp at k3 hl; omega
   have sH2 : Same H H2 := fun c o h => kp _ _ (s1 _ _ h) (fun e => by rw [e, n1] at h; cases h)
   refine ⟨_, rfl, d, kvS bs, bs.map (·.1), rfl, .inl k1, zjX bs, (by rw [List.length_map]; omega), fun z ms mp mn mso hz => ?_⟩
   have sz := zae hz (.lst (ms.map V.str))
   have lms : ms.length = bs.length := by have := mp.length_eq; simpa using this
   have hk : ∀ f, f ∈ ms ↔ (metO (zal w1 f) (zal (ps.map (·.2)) f)).isSome = true := fun f => by
    rw [mp.mem_iff, zj2]
    have := k5 f
    cases hs : metO (zal w1 f) (zal (ps.map (·.2)) f) with
    | none => rw [hs] at this; rw [show getS bs f = none from this]; simp
    | some s => rw [hs] at this; obtain ⟨t, t1, _⟩ := this; rw [t1]; simp
   have im : IsMet w1 (ps.map (·.2)) (zee w1 (ps.map (·.2)) ms) := zhn (zfl mso mn) hk (by simp at k3 ⊢; omega)
   have mk : (zee w1 (ps.map (·.2)) ms).map (·.1) = ms := by
    unfold zee
    rw [List.map_map]
    exact List.map_id _
   refine ⟨z, rfl, ⟨_, SqL.of zab⟩, fun p hp => ?_⟩
   refine zjV (cap := [some (.ref d)]) (zee w1 (ps.map (·.2)) ms) (by unfold zee; rw [List.length_map]; omega) (by rw [mk]; exact SqL.of zab) hp rfl ?_ ?_
   · intro x hx H' R s' hR
     have kd := s' _ _ (sz _ _ k1)
     obtain ⟨f, hf, rfl⟩ := List.mem_map.mp hx
     have hso := (hk f).mp hf
     have kf := k5 f
     obtain ⟨tt, t1, t2⟩ : ∃ t, getS bs f = some (.ref t) ∧ H2 t = some (.tup [eV (zhU w1 (ps.map (·.2)) f).1, eV (zhU w1 (ps.map (·.2)) f).2]) := by
      unfold zhU
      cases hs : metO (zal w1 f) (zal (ps.map (·.2)) f) with
      | none => rw [hs] at hso; cases hso
      | some s => rw [hs] at kf; exact kf
     have gd : DGet H' d (.str f) (some (.ref tt)) := by
      have := DGet.k (k := Sum.inr f) kd
      rw [zcs, t1] at this
      exact this
     have t3 := s' _ _ (sz _ _ t2)
     exact ⟨_, rfl, _, rfl, _, rfl, d, _, rfl, gd, tt, _, 0, _, rfl, rfl, SqT.of t3, rfl, _, rfl, _, rfl, d, _, rfl, gd, tt, _, 1, _, rfl, rfl, SqT.of t3, rfl, zq3, hR⟩
   intro H3 qs s3 q1 q2 q3
   refine ⟨p, _, rfl, .inl ⟨SqL.of q2, fun t ht => ?_⟩⟩
   have st := zae ht (.tup (qs.map fun q => V.ref q.1))
   exact qS k4 t _ _ im (sH2.trans (sz.trans (s3.trans st))) ⟨qs, q1, zab, fun q hq => st _ _ (q3 q hq)⟩
theorem zdV (F : Fun K "spans_beside" "spans_beside" zbf f fd)  : FnOk P w K mg base CX0 1 f fd ["span", "inner"] (zb4) := by
 refine F.ok sc_spans_beside (fun vs H Q E h => ?_) (fun cdv A outer s H vs Q E hr h => ?_)
 · obtain ⟨v, w', s', t', rfl, S1, S2, W, q⟩ := h
   rfl
 obtain ⟨v, w', s', t', rfl, S1, S2, W, q⟩ := h
 refine ⟨_, (zad (zcX (pv 0) (zcf rfl (zam (zaj (i := 2) sc_spans_beside.nd rfl (Or.inl rfl)) (zam (zaj (i := 3) sc_spans_beside.nd rfl (Or.inl rfl)) za1))))
  (zad (zcX (pv 1) (zcf rfl (zam (zaj (i := 4) sc_spans_beside.nd rfl (Or.inl rfl)) (zam (zaj (i := 5) sc_spans_beside.nd rfl (Or.inl rfl)) za1))))
  (zad (zao (i := 6) sc_spans_beside.nd rfl (Or.inl rfl) (zdF (zav zfB (pv 4) (pv 2) (zaA _)) (zaY (zaa (zaJ (zaa (pv 2) (zaa (zar zdu (pv 4) zaf) zac))) zac)) (zaY zac)))
  (zad (zao (i := 7) sc_spans_beside.nd rfl (Or.inl rfl) (zdF (zav zfB (pv 5) (pv 3) (zaA _)) (zaY (zaa (zaJ (zaa (zar zaL (pv 5) zaf) (zaa (pv 3) zac))) zac)) (zaY zac)))
  (zah (zap (zar zhi (pv 6) (pv 7)))))))), ?_⟩
 obtain ⟨a, rfl, ea⟩ := S1
 obtain ⟨b, rfl, eb⟩ := S2
 obtain ⟨a1, b1⟩ := s'
 obtain ⟨c1, d1⟩ := t'
 dsimp only at ea eb
 refine ⟨_, rfl, a, _, rfl, SqT.of ea, rfl, _, _, rfl, _, _, rfl, rfl, ?_⟩
 refine ⟨_, rfl, b, _, rfl, SqT.of eb, rfl, _, _, rfl, _, _, rfl, rfl, ?_⟩
 dsimp only
 refine zbE (fun σ' H' => ∃ (r1 : Addr) (ss : List (Addr × SPN)), σ' = [some (.ref a), some (.ref b), some (eV a1), some (eV b1), some (eV c1), some (eV d1), some (.ref r1), none] ∧ Same H H' ∧ H' r1 = some (.lst (ss.map fun x => V.ref x.1)) ∧ ss.map (·.2) = below (a1, b1) (c1, d1) ∧ ∀ x ∈ ss, H' x.1 = some (.tup [eV x.2.1, eV x.2.2])) (fun Z hZ => ?_) ?_
 · cases c1 with
   | none =>
    have e0 : a1 = none := by
     cases a1 with
     | none => rfl
     | some l => obtain ⟨k, hk, _⟩ := W.lo l rfl; cases hk
    subst e0
    refine ⟨_, rfl, _, rfl, rfl, _, rfl, zlF rfl ⟨sz0, fun r1 hr1 => ?_⟩⟩
    exact hZ _ _ ⟨r1, [], rfl, zae hr1 _, zab, rfl, fun x hx => by simp at hx⟩
   | some l =>
    refine ⟨_, rfl, _, rfl, by cases a1 <;> rfl, _, rfl, ite2 (fun h => ?_) (fun h => ?_)⟩
    · have ne : a1 ≠ some l := fun e => by rw [e] at h; simp at h
      refine ⟨_, rfl, _, rfl, _, _, rfl, rfl, zq2, fun t ht => ?_⟩
      have s3 := zae ht (.tup [eV a1, V.int (l - 1)])
      have e3 : (upd H t (.tup [eV a1, V.int (l - 1)])) t = some (.tup [eV a1, V.int (l - 1)]) := zab
      dsimp only
      generalize upd H t (.tup [eV a1, V.int (l - 1)]) = H3 at *
      refine ⟨(by show 1 ≤ sizeLine; decide), fun r1 hr1 => ?_⟩
      have s4 := zae hr1 (.lst [V.ref t])
      refine hZ _ _ ⟨r1, [(t, (a1, some (l - 1)))], rfl, s3.trans s4, zab, ?_, fun x hx => ?_⟩
      · show _ = (if _ then _ else _)
        rw [if_neg ne]
        rfl
      · rw [List.mem_singleton.mp hx]
        exact s4 _ _ e3
    · have e : a1 = some l := by
       by_cases e : a1 = some l
       · exact e
       · exact absurd (by simp; exact fun z => e (zkr (a := a1) (b := some l) z.symm)) h
      subst e
      refine ⟨sz0, fun r1 hr1 => ?_⟩
      exact hZ _ _ ⟨r1, [], rfl, zae hr1 _, zab, by show [] = (if _ then _ else _); rw [if_pos rfl], fun x hx => by simp at hx⟩
 rintro σ' H1 ⟨r0, ss, rfl, s1, e1, f1, g1⟩
 refine zbE (fun σ' H' => ∃ (r1 : Addr) (ss : List (Addr × SPN)), σ' = [some (.ref a), some (.ref b), some (eV a1), some (eV b1), some (eV c1), some (eV d1), some (.ref r0), some (.ref r1)] ∧ Same H1 H' ∧ H' r1 = some (.lst (ss.map fun x => V.ref x.1)) ∧ ss.map (·.2) = above (a1, b1) (c1, d1) ∧ ∀ x ∈ ss, H' x.1 = some (.tup [eV x.2.1, eV x.2.2])) (fun Z hZ => ?_) ?_
 · cases d1 with
   | none =>
    have e0 : b1 = none := by
     cases b1 with
     | none => rfl
     | some l => obtain ⟨k, hk, _⟩ := W.hi l rfl; cases hk
    subst e0
    refine ⟨_, rfl, _, rfl, rfl, _, rfl, zlF rfl ⟨sz0, fun r1 hr1 => ?_⟩⟩
    exact hZ _ _ ⟨r1, [], rfl, zae hr1 _, zab, rfl, fun x hx => by simp at hx⟩
   | some l =>
    refine ⟨_, rfl, _, rfl, by cases b1 <;> rfl, _, rfl, ite2 (fun h => ?_) (fun h => ?_)⟩
    · have ne : b1 ≠ some l := fun e => by rw [e] at h; simp at h
      refine ⟨_, rfl, _, _, rfl, rfl, _, rfl, zq2, fun t ht => ?_⟩
      have s3 := zae ht (.tup [V.int (l + 1), eV b1])
      have e3 : (upd H1 t (.tup [V.int (l + 1), eV b1])) t = some (.tup [V.int (l + 1), eV b1]) := zab
      dsimp only
      generalize upd H1 t (.tup [V.int (l + 1), eV b1]) = H3 at *
      refine ⟨(by show 1 ≤ sizeLine; decide), fun r1 hr1 => ?_⟩
      have s4 := zae hr1 (.lst [V.ref t])
      refine hZ _ _ ⟨r1, [(t, (some (l + 1), b1))], rfl, s3.trans s4, zab, ?_, fun x hx => ?_⟩
      · show _ = (if _ then _ else _)
        rw [if_neg ne]
        rfl
      · rw [List.mem_singleton.mp hx]
        exact s4 _ _ e3
    · have e : b1 = some l := by
       by_cases e : b1 = some l
       · exact e
       · exact absurd (by simp; exact fun z => e (zkr (a := b1) (b := some l) z.symm)) h
      subst e
      refine ⟨sz0, fun r1 hr1 => ?_⟩
      exact hZ _ _ ⟨r1, [], rfl, zae hr1 _, zab, by show [] = (if _ then _ else _); rw [if_pos rfl], fun x hx => by simp at hx⟩
 rintro σ' H2 ⟨r1, us, rfl, s2, e2, f2, g2⟩
 have l1 : ss.length ≤ 10 := by
  have h1 := congrArg List.length f1
  have h2 := zbY (a1, b1) (c1, d1)
  unfold zbK at h2
  rw [List.length_append] at h2
  rw [List.length_map] at h1
  omega
 have l2 : us.length ≤ 10 := by
  have h1 := congrArg List.length f2
  have h2 := zbY (a1, b1) (c1, d1)
  unfold zbK at h2
  rw [List.length_append] at h2
  rw [List.length_map] at h1
  omega
 refine ⟨_, rfl, _, rfl, r0, r1, _, _, rfl, rfl, s2 _ _ e1, e2, by rw [List.length_map, List.length_map]; exact zeA (by omega), fun r hr' => ?_⟩
 have s3 := zae hr' (.lst (ss.map (fun x => V.ref x.1) ++ us.map (fun x => V.ref x.1)))
 refine q r (ss ++ us) _ ((s1.trans s2).free hr') (s1.trans (s2.trans s3)) ?_ ?_ fun x hx => ?_
 · rw [List.map_append, f1, f2]; rfl
 · rw [zab, List.map_append]
 · rcases List.mem_append.mp hx with z | z
   · exact s3 _ _ (s2 _ _ (g1 x z))
   · exact s3 _ _ (g2 x z)
theorem zcN (F : Fun K "parts_beside_one" "parts_beside_one" zaP f fd) (G_wish_shared : Γ13 P w K mg base) (G_spans_beside : Γ14 P w K mg base) : FnOk P w K mg base CX0 3 f fd ["wish", "other"] (zdg) := by
 refine F.ok sc_parts_beside_one (fun vs H Q E h => ?_) (fun cdv A outer s H vs Q E hr h => ?_)
 · obtain ⟨a, b, w', o, rfl, hw, ho, kw, ko, lw, lo, q⟩ := h
   rfl
 obtain ⟨a, b, w', o, rfl, hw, ho, kw, ko, lw, lo, q⟩ := h
 refine ⟨_, (zad (zao (i := 2) sc_parts_beside_one.nd rfl (Or.inl rfl) (zay G_wish_shared (hr.mono (by decide)) rfl (zaa (pv 0) (zaa (pv 1) zac))))
  (zad (zaK (PW.pt (zcW (zbI (zcH (pv 2))) (zcd (zav zgx (zai zau rfl B.len_ zba (zaa (pv 2) zac)) (zai zau rfl B.len_ zba (zaa (pv 0) zac)) (zaA _))))) (zah (zap (zaY (zaa (pv 0) zac)))) zas)
  (zad (zao (i := 3) sc_parts_beside_one.nd rfl (Or.inl rfl) (zaY zac))
  (zad (zce PassesOwn.never rfl (zjM rfl B.enumerate_ (zaa (pv 0) zac)) (zcf rfl (zam (zaj (i := 4) sc_parts_beside_one.nd rfl (Or.inl rfl)) (zam (zcf rfl (zam (zaj (i := 5) sc_parts_beside_one.nd rfl (Or.inl rfl)) (zam (zaj (i := 6) sc_parts_beside_one.nd rfl (Or.inl rfl)) (zam (zaj (i := 7) sc_parts_beside_one.nd rfl (Or.inl rfl)) za1)))) za1))) (zah (zce PassesOwn.never rfl (zaT (zay G_spans_beside (hr.mono (by decide)) rfl (zaa (zaJ (zaa (pv 6) (zaa (pv 7) zac))) (zaa (zaJ (zaa (zaG za9 (zaG za9 (pv 2) (pv 4) (fun _ _ => rfl)) zaf (fun _ _ => rfl)) (zaa (zaG za9 (zaG za9 (pv 2) (pv 4) (fun _ _ => rfl)) zaf (fun _ _ => rfl)) zac))) zac)))) (zcf rfl (zam (zaj (i := 8) sc_parts_beside_one.nd rfl (Or.inl rfl)) (zam (zaj (i := 9) sc_parts_beside_one.nd rfl (Or.inl rfl)) za1))) (zah (zcl (zhK PySem.F.plainAttrs_list PySem.F.slot_list_append PySem.F.type_list_append zbU (pv 3) (zaa (zar zeQ (zar zeQ (zaZ zeC (pv 2) zbn (zbm (pv 4))) (zaJ (zaa (zaJ (zaa (pv 5) (zaa (pv 8) (zaa (pv 9) zac)))) zac))) (zaZ zeC (pv 0) (zbm (zar zaL (pv 4) zaf)) zbn)) zac)))))))
  (zah (zap (pv 3))))))), ?_⟩
 have whole : ∀ (H1 : Hp), Same H H1 → one w' o = [w'] → OneOk w' o (one w' o) → ∀ r, H1 r = none → Q (.ref r) (upd H1 r (.lst [V.ref a])) := fun H1 s1 e ok r hr => by
  have s2 := zae hr (.lst [V.ref a])
  refine q r _ (s1.free hr) (s1.trans s2) ?_ ok
  rw [e]
  exact ⟨[(a, w')], rfl, zab, fun x hx => by rw [List.mem_singleton.mp hx]; exact hw.same (s1.trans s2)⟩
 refine ⟨_, rfl, _, rfl, a, b, w', o, rfl, hw, ho, kw, ko, by omega, fun ap H1 s1 => ?_, fun ap mr m H1 im s1 hm => ?_⟩
 · have e1 : one w' o = [w'] := by unfold one; rw [if_pos ap]
   exact ⟨_, rfl, _, rfl, iteT (iteT ⟨_, rfl, (by show 1 ≤ sizeLine; decide), whole H1 s1 e1 (by rw [e1]; exact zfD kw ko ap)⟩)⟩
 have te := zfe im
 have hm' := hm
 have hw1' := hw.same s1
 obtain ⟨ms, hms, hA, hP⟩ := hm
 obtain ⟨ws, hws, hB, hR⟩ := hw.same s1
 have lm : ms.length = m.length := by rw [← hms, List.length_map]
 have lws : ws.length = w'.length := by rw [← hws, List.length_map]
 refine ⟨_, rfl, _, rfl, iteF ⟨_, rfl, mr, _, rfl, .inr (SqT.of hA), _, rfl, a, _, rfl, .inr (SqT.of hB), _, _, rfl, rfl, _, rfl, ite2 (fun h => ?_) (fun h => ?_)⟩⟩
 · have h1 : w'.length < m.length := by
    have := of_decide_eq_true h
    rw [List.length_map, List.length_map, lm, lws] at this
    omega
   have e1 : one w' o = [w'] := by unfold one; rw [if_neg (by rw [ap]; simp), te, if_pos h1]
   exact ⟨_, rfl, (by show 1 ≤ sizeLine; decide), whole H1 s1 e1 (by rw [e1]; exact zhj kw ko im h1)⟩
 have h1 : m.length ≤ w'.length := by
  have : ¬ ((((ms.map fun p => V.ref p.1).length : Nat) : Int) > (((ws.map fun p => V.ref p.1).length : Nat) : Int)) := fun z => h (decide_eq_true z)
  rw [List.length_map, List.length_map, lm, lws] at this
  omega
 have e1 : one w' o = zc1 w' m := by unfold one; rw [if_neg (by rw [ap]; simp), te, if_neg (by omega)]
 have hf := zej kw im h1
 have ll : m.length = w'.length := by have := congrArg List.length hf; simpa using this
 refine ⟨sz0, fun pr hpr => ?_⟩
 have s2 := zae hpr (.lst [])
 have e2 : (upd H1 pr (.lst [])) pr = some (.lst []) := zab
 have np : H pr = none := s1.free hpr
 have hm2 := hm'.same s2
 have hw2 := hw1'.same s2
 have S2 := s1.trans s2
 generalize upd H1 pr (.lst []) = H2 at *
 have hB2 : SqT K H2 a (ws.map fun p => V.ref p.1) := SqT.of (s2 _ _ hB)
 have cl : ∀ l : List Nat, (l.flatMap (zdA w' m)).length ≤ 2 * l.length := fun l => by
  induction l with
  | nil => simp
  | cons i l ih =>
   rw [List.flatMap_cons, List.length_append, List.length_cons]
   have : (zdA w' m i).length ≤ 2 := by
    unfold zdA
    split
    · rw [List.length_map]; exact zbY _ _
    · simp
   omega
 refine ⟨_, rfl, a, rfl, ⟨_, hB2⟩, zja (K := K) (a := a) (xs := ws.map fun p => V.ref p.1) (fun i σ H' => (∃ y4 y5 y6 y7 y8 y9, σ = [some (.ref a), some (.ref b), some (.ref mr), some (.ref pr), y4, y5, y6, y7, y8, y9]) ∧ Same H H' ∧ Tups H2 H' ∧ ∃ us : List (Addr × List WP), H' pr = some (.lst (us.map fun z => V.ref z.1)) ∧ us.map (·.2) = (List.range i).flatMap (zdA w' m) ∧ ∀ z ∈ us, WishAt H' z.1 z.2) ⟨⟨none, none, none, none, none, none, rfl⟩, S2, fun _ _ z => z, [], e2, rfl, fun z hz => by simp at hz⟩ (fun i σ H' _ ⟨_, _, z, _⟩ => SqT.of (z _ _ (s2 _ _ hB))) ?_ ?_⟩
 · rintro i x z σ H3 hx hz ⟨⟨y4, y5, y6, y7, y8, y9, rfl⟩, s3, t3, us, e3, u3, v3⟩
   rw [List.getElem?_map] at hx
   cases ex : ws[i]? with
   | none => rw [ex] at hx; cases hx
   | some P1 =>
    rw [ex] at hx
    obtain rfl : V.ref P1.1 = x := Option.some.inj hx
    have li : i < ws.length := (List.getElem?_eq_some_iff.mp ex).1
    obtain ⟨M1, em⟩ : ∃ M1, ms[i]? = some M1 := ⟨ms[i]'(by omega), List.getElem?_eq_getElem (by omega)⟩
    have ewP : w'[i]? = some P1.2 := by rw [← hws, List.getElem?_map, ex]; rfl
    have emP : m[i]? = some M1.2 := by rw [← hms, List.getElem?_map, em]; rfl
    obtain ⟨m1, m2, m3⟩ := zek kw ko im ap hf ewP emP
    have s4 := zae hz (.tup [V.int (i : Int), V.ref P1.1])
    have e4 : (upd H3 z (.tup [V.int (i : Int), V.ref P1.1])) z = some (.tup [V.int (i : Int), V.ref P1.1]) := zab
    have t4 : Tups H2 (upd H3 z (.tup [V.int (i : Int), V.ref P1.1])) := t3.trans s4.tups
    have f4 := s4 _ _ e3
    have v4 : ∀ z' ∈ us, WishAt (upd H3 z (.tup [V.int (i : Int), V.ref P1.1])) z'.1 z'.2 := fun z' hz' => (v3 z' hz').same s4
    have S4 := s3.trans s4
    generalize upd H3 z (.tup [V.int (i : Int), V.ref P1.1]) = H4 at *
    have hA4 := t4 _ _ (s2 _ _ hA)
    have hB4 := t4 _ _ (s2 _ _ hB)
    have p4 := t4 _ _ (s2 _ _ (hR P1 (List.mem_of_getElem? ex)))
    have q4 := t4 _ _ (s2 _ _ (hP M1 (List.mem_of_getElem? em)))
    have hat : atI (ms.map fun p => V.ref p.1) (i : Int) = some (V.ref M1.1) := zbC (by rw [List.getElem?_map, em]; rfl)
    refine ⟨z, _, rfl, SqT.of e4, rfl, _, _, rfl, _, _, rfl, ⟨P1.1, _, rfl, SqT.of p4, rfl, _, _, rfl, _, _, rfl, _, _, rfl, rfl, rfl, ?_⟩⟩
    refine ⟨_, rfl, _, rfl, zq2, fun t1 ht1 => ?_⟩
    have s5 := zae ht1 (.tup [eV P1.2.2.1, eV P1.2.2.2])
    have e5 : (upd H4 t1 (.tup [eV P1.2.2.1, eV P1.2.2.2])) t1 = some (.tup [eV P1.2.2.1, eV P1.2.2.2]) := zab
    generalize upd H4 t1 (.tup [eV P1.2.2.1, eV P1.2.2.2]) = H5 at *
    refine ⟨_, rfl, _, rfl, mr, _, _, _, rfl, rfl, SqT.of (s5 _ _ hA4), hat, M1.1, _, 1, _, rfl, rfl, SqT.of (s5 _ _ q4), rfl, _, rfl, _, rfl, mr, _, _, _, rfl, rfl, SqT.of (s5 _ _ hA4), hat, M1.1, _, 2, _, rfl, rfl, SqT.of (s5 _ _ q4), rfl, zq2, fun t2 ht2 => ?_⟩
    have s6 := zae ht2 (.tup [eV M1.2.2.1, eV M1.2.2.2])
    have e6 : (upd H5 t2 (.tup [eV M1.2.2.1, eV M1.2.2.2])) t2 = some (.tup [eV M1.2.2.1, eV M1.2.2.2]) := zab
    generalize upd H5 t2 (.tup [eV M1.2.2.1, eV M1.2.2.2]) = H6 at *
    refine ⟨.ref t1, .ref t2, P1.2.2, M1.2.2, rfl, ⟨t1, rfl, s6 _ _ e5⟩, ⟨t2, rfl, e6⟩, m2, fun r ss H7 nr7 s7 f7 e7 g7 => ?_⟩
    have t7 := s5.trans (s6.trans s7)
    have S7 := S4.trans t7
    have nr : r ≠ pr := fun z' => by rw [z', s6 _ _ (s5 _ _ f4)] at nr7; cases nr7
    refine ⟨r, rfl, ⟨_, SqL.of e7⟩, zcD (K := K) (a := r) (xs := ss.map fun x => V.ref x.1) (fun j σ H' => (∃ y8 y9, σ = [some (.ref a), some (.ref b), some (.ref mr), some (.ref pr), some (.int (i : Int)), some (.str P1.2.1), some (eV P1.2.2.1), some (eV P1.2.2.2), y8, y9]) ∧ Same H H' ∧ Tups H7 H' ∧ H' r = some (.lst (ss.map fun x => V.ref x.1)) ∧ ∃ us : List (Addr × List WP), H' pr = some (.lst (us.map fun z => V.ref z.1)) ∧ us.map (·.2) = (List.range i).flatMap (zdA w' m) ++ ((ss.take j).map fun x => m.take i ++ [(P1.2.1, x.2)] ++ w'.drop (i + 1)) ∧ ∀ z ∈ us, WishAt H' z.1 z.2) ?_ (fun j σ H' _ ⟨_, _, _, z, _⟩ => SqL.of z) ?_ ?_⟩
    · exact ⟨⟨_, _, rfl⟩, S7, fun _ _ z => z, e7, us, t7 _ _ f4, by rw [u3]; simp, fun z' hz' => (v4 z' hz').same t7⟩
    · rintro j x σ H8 hx ⟨⟨y8', y9', rfl⟩, s8, t8, r8, us8, e8, u8, v8⟩
      rw [List.getElem?_map] at hx
      cases es : ss[j]? with
      | none => rw [es] at hx; cases hx
      | some N1 =>
       rw [es] at hx
       obtain rfl : V.ref N1.1 = x := Option.some.inj hx
       have n8 := t8 _ _ (g7 N1 (List.mem_of_getElem? es))
       have hA8 := t8 _ _ (t7.tups _ _ hA4)
       have hB8 := t8 _ _ (t7.tups _ _ hB4)
       have lss : ss.length ≤ 2 := by
        have h1 := congrArg List.length f7
        rw [List.length_map] at h1
        have h2 := zbY P1.2.2 M1.2.2
        omega
       have lus : us8.length ≤ 100 := by
        have h1 := congrArg List.length u8
        rw [List.length_map, List.length_append, List.length_map, List.length_take] at h1
        have h2 := cl (List.range i)
        rw [List.length_range] at h2
        omega
       refine ⟨N1.1, _, rfl, SqT.of n8, rfl, _, _, rfl, _, _, rfl, rfl, ?_⟩
       refine ⟨_, rfl, .inl ⟨rfl, _, SqL.of e8⟩, _, rfl, _, rfl, _, rfl, mr, _, rfl, hA8, fun p1 H9 s9 e9 => ?_⟩
       rw [zd6 rfl, ← List.map_take] at e9
       refine ⟨_, rfl, _, rfl, _, rfl, zq3, fun c1 hc1 => ?_⟩
       have s10 := zae hc1 (.tup [V.str P1.2.1, eV N1.2.1, eV N1.2.2])
       have e10 : (upd H9 c1 (.tup [V.str P1.2.1, eV N1.2.1, eV N1.2.2])) c1 = some (.tup [V.str P1.2.1, eV N1.2.1, eV N1.2.2]) := zab
       generalize upd H9 c1 (.tup [V.str P1.2.1, eV N1.2.1, eV N1.2.2]) = H10 at *
       refine ⟨(by show 1 ≤ sizeLine; decide), fun c2 hc2 => ?_⟩
       have s11 := zae hc2 (.tup [V.ref c1])
       have e11 : (upd H10 c2 (.tup [V.ref c1])) c2 = some (.tup [V.ref c1]) := zab
       generalize upd H10 c2 (.tup [V.ref c1]) = H11 at *
       refine ⟨p1, c2, _, _, rfl, rfl, s11 _ _ (s10 _ _ e9), e11, (by rw [List.length_map, List.length_take]; exact zeA (by simp; omega)), fun d1 H12 s12 e12 => ?_⟩
       have t11 := s9.trans (s10.trans s11)
       refine ⟨_, rfl, _, rfl, _, _, rfl, rfl, _, rfl, a, _, rfl, s12 _ _ (t11 _ _ hB8), fun p2 H13 s13 e13 => ?_⟩
       rw [zd8 (n := i + 1) (by omega), ← List.map_drop] at e13
       refine ⟨d1, p2, _, _, rfl, rfl, s13 _ _ e12, e13, (by rw [List.length_append, List.length_map, List.length_take, List.length_map, List.length_drop]; exact zeA (by simp; omega)), fun d2 H14 s14 e14 => ?_⟩
       have t14 := t11.trans (s12.trans (s13.trans s14))
       have e15 : ((ms.take i).map fun p : Addr × WP => V.ref p.1) ++ [V.ref c1] ++ (ws.drop (i + 1)).map (fun p : Addr × WP => V.ref p.1) = (ms.take i ++ [((c1, P1.2.1, N1.2) : Addr × WP)] ++ ws.drop (i + 1)).map fun p : Addr × WP => V.ref p.1 := by simp
       rw [e15] at e14
       have W14 : WishAt H14 d2 (m.take i ++ [(P1.2.1, N1.2)] ++ w'.drop (i + 1)) := by
        refine ⟨_, ?_, e14, fun y hy => ?_⟩
        · rw [List.map_append, List.map_append, List.map_take, hms, List.map_drop, hws]; rfl
        · rcases List.mem_append.mp hy with y1 | y1
          · rcases List.mem_append.mp y1 with y2 | y2
            · exact t14 _ _ (t8 _ _ (t7.tups _ _ (t4 _ _ (s2 _ _ (hP y (List.mem_of_mem_take y2))))))
            · rw [List.mem_singleton.mp y2]
              exact s14 _ _ (s13 _ _ (s12 _ _ (s11 _ _ e10)))
          · exact t14 _ _ (t8 _ _ (t7.tups _ _ (t4 _ _ (s2 _ _ (hR y (List.mem_of_mem_drop y1))))))
       have f14 := t14 _ _ e8
       refine ⟨pr, _, _, rfl, rfl, f14, (by rw [List.length_map]; exact zax (by omega)), ?_⟩
       have tl := zb0 (o := .lst (us8.map (fun q => V.ref q.1) ++ [V.ref d2])) f14
       refine ⟨⟨_, _, rfl⟩, zbL (s8.trans t14) np, (t8.trans t14.tups).trans tl, by rw [zan nr]; exact t14 _ _ r8, us8 ++ [(d2, m.take i ++ [(P1.2.1, N1.2)] ++ w'.drop (i + 1))], by rw [zab, List.map_append]; rfl, ?_, fun y hy => ?_⟩
       · rw [List.map_append, u8, zaw es, List.map_append, List.append_assoc]; rfl
       · rcases List.mem_append.mp hy with y1 | y1
         · exact ((v8 y y1).same t14).keep tl
         · rw [List.mem_singleton.mp y1]; exact W14.keep tl
    · rintro σ H8 ⟨⟨y8', y9', rfl⟩, s8, t8, r8, us8, e8, u8, v8⟩
      refine ⟨⟨_, _, _, _, _, _, rfl⟩, s8, (t4.trans t7.tups).trans t8, us8, e8, ?_, v8⟩
      have et : ss.take (ss.map fun x => V.ref x.1).length = ss := List.take_of_length_le (by simp)
      rw [u8, et, List.range_succ, List.flatMap_append]
      congr 1
      rw [List.flatMap_cons, List.flatMap_nil, List.append_nil]
      unfold zdA
      rw [ewP, emP]
      show _ = (zbK P1.2.2 M1.2.2).map _
      rw [← f7, List.map_map]
      rfl
 · rintro σ H3 ⟨⟨y4, y5, y6, y7, y8, y9, rfl⟩, s3, t3, us, e3, u3, v3⟩
   rw [List.length_map, lws] at u3
   refine ⟨_, rfl, q pr _ np s3 ?_ ?_⟩
   · rw [e1]; exact ⟨us, u3, e3, v3⟩
   · rw [e1]; exact zfC kw ko im ap h1
theorem zdX (F : Fun K "parts_beside" "parts_beside" zaV f fd) (G_parts_beside_one : Γ15 P w K mg base) : FnOk P w K mg base CX0 4 f fd ["wish", "others"] (zgj) := by
 refine F.ok sc_parts_beside (fun vs H Q E h => ?_) (fun cdv A outer s H vs Q E hr h => ?_)
 · obtain ⟨a, l, w', os, rfl, hw, kw, lw, hl, lo, lx, q⟩ := h
   rfl
 obtain ⟨a, l, w', os, rfl, hw, kw, lw, hl, lo, lx, q⟩ := h
 refine ⟨_, (zad (zao (i := 2) sc_parts_beside.nd rfl (Or.inl rfl) (zaY (zaa (pv 0) zac)))
  (zad (zce PassesOwn.never rfl (zaT (pv 1)) (zaj (i := 3) sc_parts_beside.nd rfl (Or.inr rfl)) (zah (ziw (N' := ["part", "smaller", "other"]) (js := [none, none, some 3]) (i := 2) sc_parts_beside.nd rfl (Or.inl rfl) rfl (zbX (N := ["wish", "others", "parts", "other"]) (outer := zag zaV) (by decide +kernel)) (zaT (pv 2)) (fun _ _ _ _ _ => (zaj (i := 0) (show List.Nodup (["part", "smaller", "other"] : List Str) by decide +kernel) rfl (Or.inl rfl))) (fun _ _ _ _ _ => zaM) (fun _ _ _ _ _ => (zjL K rfl (zay G_parts_beside_one (hr.mono (by decide)) rfl (zaa (pv 0) (zaa (pv 2) zac))))) (fun _ _ _ _ _ => (zaj (i := 1) (show List.Nodup (["part", "smaller", "other"] : List Str) by decide +kernel) rfl (Or.inl rfl))) (fun _ _ _ _ _ => zaM) (fun _ _ _ _ _ => (pv 1)))))
  (zah (zap (pv 2))))), ?_⟩
 refine ⟨_, rfl, (by show 1 ≤ sizeLine; decide), fun r0 hr0 => ?_⟩
 have s1 := zae hr0 (.lst [V.ref a])
 have e1 : (upd H r0 (.lst [V.ref a])) r0 = some (.lst [V.ref a]) := zab
 generalize upd H r0 (.lst [V.ref a]) = H1 at *
 have hl1 := hl.same s1
 refine ⟨_, rfl, l, rfl, ⟨_, SqL.of hl1.at'⟩, zcD (K := K) (a := l) (xs := os.map fun x => V.ref x.1) (fun i σ H' => (∃ r y3, σ = [some (.ref a), some (.ref l), some (.ref r), y3] ∧ PsAt H' r (partsF w' ((os.map (·.2)).take i))) ∧ Same H H' ∧ AllOk w' ((os.map (·.2)).take i) (partsF w' ((os.map (·.2)).take i))) ⟨⟨r0, none, rfl, [(a, w')], rfl, e1, fun x hx => by rw [List.mem_singleton.mp hx]; exact hw.same s1⟩, s1, all_nil kw⟩ (fun i σ H' _ ⟨_, z, _⟩ => SqL.of (z _ _ hl.at')) ?_ ?_⟩
 · rintro i x σ H2 hx ⟨⟨r, y3, rfl, qs, q1, q2, q3⟩, s2, A2⟩
   rw [List.getElem?_map] at hx
   cases ex : os[i]? with
   | none => rw [ex] at hx; cases hx
   | some O1 =>
    rw [ex] at hx
    obtain rfl : V.ref O1.1 = x := Option.some.inj hx
    have hm := List.mem_of_getElem? ex
    have eo : (os.map (·.2))[i]? = some O1.2 := by rw [List.getElem?_map, ex]; rfl
    have li : i < 7 := by have := (List.getElem?_eq_some_iff.mp ex).1; omega
    have okq : ∀ x ∈ qs, WOk x.2 ∧ x.2.length ≤ 3 := fun x hx => by
     obtain ⟨a1, a2⟩ := A2.ok x.2 (by rw [← q1]; exact List.mem_map_of_mem hx)
     have := congrArg List.length a2
     simp only [List.length_map] at this
     exact ⟨a1, by omega⟩
    have lq : qs.length ≤ 7 ^ 7 := by
     have h1 := A2.len
     rw [← q1, List.length_map, List.length_take, List.length_map] at h1
     exact Nat.le_trans h1 (Nat.pow_le_pow_right (by decide) (by omega))
    by_cases hb : ∀ x ∈ qs, OneOk x.2 O1.2 (one x.2 O1.2)
    · refine ⟨_, rfl, r, rfl, ⟨_, SqL.of q2⟩, fun p hp => ?_⟩
      refine ziS (cap := [some (.ref O1.1)]) qs (fun p => one p O1.2) (SqL.of q2) hp rfl (fun x hx => by have h1 := (hb x hx).len; have h2 := (okq x hx).2; omega) lq q3 (fun x hx y H' R s' hR => ?_) (fun u v H' R h => ⟨_, rfl, h⟩) fun H3 zs s3 z1 z2 z3 => ?_
      · refine ⟨_, rfl, _, rfl, x.1, O1.1, x.2, O1.2, rfl, (q3 x hx).same s', (hl.ok O1 hm).1.same (s2.trans s'), (okq x hx).1, (hl.ok O1 hm).2, by have := (okq x hx).2; omega, lx O1 hm, fun rr H4 nr s4 ps ok => ?_⟩
        obtain ⟨rs, r1, r2, r3⟩ := ps
        exact ⟨rr, rfl, ⟨_, SqL.of r2⟩, hR rr rs H4 nr s4 r2 r1 r3⟩
      · have e3 : zs.map (·.2) = partsF w' ((os.map (·.2)).take (i + 1)) := by
         rw [z1, zaw eo, zdS, ← q1, List.flatMap_map]
        refine ⟨⟨p, _, rfl, zs, e3, z2, z3⟩, s2.trans s3, ?_⟩
        rw [zaw eo, zdS]
        refine zkd A2 lw fun p hp => ?_
        rw [← q1] at hp
        obtain ⟨x, hx, rfl⟩ := List.mem_map.mp hp
        exact hb x hx
    · exact absurd (fun x hx => zjR (okq x hx).1 (hl.ok O1 hm).2) hb
 · rintro σ H2 ⟨⟨r, y3, rfl, P2⟩, s2, A2⟩
   rw [List.length_map, List.take_of_length_le (by simp)] at A2
   rw [List.length_map, List.take_of_length_le (by simp)] at P2
   exact ⟨_, rfl, q r _ s2 P2 A2⟩
theorem zdW (F : Fun K "piece_beside" "piece_beside" zaU f fd) (G_parts_beside : Γ16 P w K mg base) (G_number_of : Γ4 P w K mg base) : FnOk P w K mg base CX0 5 f fd ["wish", "others"] (zb5) := by
 refine F.ok sc_piece_beside (fun vs H Q E h => ?_) (fun cdv A outer s H vs Q E hr h => ?_)
 · obtain ⟨a, l, w', os, rfl, hw, kw, lw, hl, lo, lx, q⟩ := h
   rfl
 obtain ⟨a, l, w', os, rfl, hw, kw, lw, hl, lo, lx, q⟩ := h
 refine ⟨_, (zad (zao (i := 2) sc_piece_beside.nd rfl (Or.inl rfl) (zay G_parts_beside (hr.mono (by decide)) rfl (zaa (pv 0) (zaa (pv 1) zac))))
  (zad (zaK (zbl (zjI (pv 2) (fun _ => rfl))) (zah (zap zcm)) zas)
  (zah (zap (zbT zcc rfl B.tuple_ zbi (zaa (zc0 (N' := ["field", "low", "high"]) (js := [none, none, none]) rfl (zbX (N := ["wish", "others", "parts"]) (outer := zag zaU) (by decide +kernel)) (zcY (zaG zaI (pv 2) zaf (fun _ _ => rfl))) (fun _ _ _ _ _ => (zeO K rfl (n := 3) rfl (zam (zaj (i := 0) (show List.Nodup (["field", "low", "high"] : List Str) by decide +kernel) rfl (Or.inl rfl)) (zam (zaj (i := 1) (show List.Nodup (["field", "low", "high"] : List Str) by decide +kernel) rfl (Or.inl rfl)) (zam (zaj (i := 2) (show List.Nodup (["field", "low", "high"] : List Str) by decide +kernel) rfl (Or.inl rfl)) za1))))) (fun _ _ _ _ _ => zaM) (fun _ _ _ _ _ => (zaJ (zaa (pv 0) (zaa (zay G_number_of (hr.mono (by decide)) rfl (zaa (zaJ (zaa (pv 1) (zaa (pv 2) zac))) zac)) zac))))) zac)))))), ?_⟩
 refine ⟨_, rfl, _, rfl, a, l, w', os, rfl, hw, kw, lw, hl, lo, lx, fun r H1 s1 P1 A1 => ?_⟩
 obtain ⟨qs, q1, q2, q3⟩ := P1
 have tr : TruV K (.ref r) H1 (!(qs.map fun x => V.ref x.1).isEmpty) := .inl ⟨_, SqL.of q2, rfl⟩
 cases qs with
 | nil =>
  refine ⟨_, rfl, _, tr, iteT ?_⟩
  refine q .non H1 s1 ?_ A1
  rw [← q1]
  rfl
 | cons q0 qs =>
  refine ⟨_, rfl, _, tr, iteF ?_⟩
  have e0 : partsF w' (os.map (·.2)) = q0.2 :: qs.map (·.2) := q1.symm
  obtain ⟨k0, f0⟩ := A1.ok q0.2 (by rw [e0]; exact List.mem_cons_self)
  obtain ⟨ps, hps, hA, hP⟩ := q3 q0 List.mem_cons_self
  have lps : ps.length ≤ 100 := by have := k0.len; rw [← hps, List.length_map] at this; exact this
  refine ⟨_, rfl, r, _, 0, _, rfl, rfl, SqL.of q2, at0, q0.1, rfl, ⟨_, SqT.of hA⟩, fun p hp => ?_⟩
  refine ziO (xs := ps.map fun p => V.ref p.1) (fun j σ' ys H2 => (∃ v1 v2 v3, σ' = [v1, v2, v3]) ∧ Same H1 H2 ∧ H2 p = some (.lst ys) ∧ ∃ ts : List (Addr × PP), ys = ts.map (fun t => V.ref t.1) ∧ ts.map (·.2) = za8 ((ps.map (·.2)).take j) ∧ ∀ t ∈ ts, H2 t.1 = some (.tup [.str t.2.1, .int t.2.2])) ⟨⟨none, none, none, rfl⟩, zae hp _, zab, [], rfl, rfl, fun t ht => by simp at ht⟩ ?_ ?_ ?_
  · rintro j σ' ys H2 hj ⟨_, s2, h1, ts, rfl, h3, _⟩
    refine ⟨s2.seqT (SqT.of hA), h1, ?_⟩
    have := congrArg List.length h3
    unfold za8 at this
    rw [List.length_map, List.length_map, List.length_take, List.length_map] at this
    rw [List.length_map]
    exact zax (by omega)
  · rintro j y σ' ys H2 N hy ⟨⟨v1, v2, v3, rfl⟩, s2, h1, ts, rfl, h3, h4⟩ hN
    rw [List.getElem?_map] at hy
    cases e2 : ps[j]? with
    | none => rw [e2] at hy; cases hy
    | some P2 =>
     rw [e2] at hy
     obtain rfl : V.ref P2.1 = y := Option.some.inj hy
     have hm2 := List.mem_of_getElem? e2
     have ep : (ps.map (·.2))[j]? = some P2.2 := by rw [List.getElem?_map, e2]; rfl
     refine ⟨P2.1, _, rfl, SqT.of (s2 _ _ (hP P2 hm2)), rfl, _, _, rfl, _, _, rfl, _, _, rfl, rfl, ?_⟩
     refine ⟨_, rfl, _, rfl, _, rfl, zq2, fun u hu => ?_⟩
     have su := zae hu (.tup [eV P2.2.2.1, eV P2.2.2.2])
     have eu : (upd H2 u (.tup [eV P2.2.2.1, eV P2.2.2.2])) u = some (.tup [eV P2.2.2.1, eV P2.2.2.2]) := zab
     generalize upd H2 u (.tup [eV P2.2.2.1, eV P2.2.2.2]) = H3 at *
     refine ⟨.ref u, P2.2.2.1, P2.2.2.2, rfl, ⟨u, rfl, eu⟩, zq2, fun t ht => ?_⟩
     have st := zae ht (.tup [V.str P2.2.1, V.int (zgJ P2.2.2.1 P2.2.2.2)])
     have s5 := su.trans st
     have h5 := s5 _ _ h1
     have tl := zb0 (o := .lst (ts.map (fun q => V.ref q.1) ++ [V.ref t])) h5
     refine ⟨h5, hN _ _ _ ⟨⟨_, _, _, rfl⟩, zbL (s2.trans s5) hp, zab, ts ++ [(t, P2.2.1, zgJ P2.2.2.1 P2.2.2.2)], ?_, ?_, ?_⟩⟩
     · rw [List.map_append]; rfl
     · rw [List.map_append, h3, zaw ep]
       unfold za8
       rw [List.map_append]
       rfl
     · intro q hq
       rcases List.mem_append.mp hq with z | z
       · exact tl _ _ (s5 _ _ (h4 q z))
       · rw [List.mem_singleton.mp z]
         exact tl _ _ zab
  · rintro σ' ys H2 ⟨_, s2, h1, ts, rfl, h3, h4⟩
    rw [List.length_map, List.take_of_length_le (by simp), hps] at h3
    refine ⟨p, _, rfl, .inl ⟨SqL.of h1, fun t ht => ?_⟩⟩
    have s3 := zae ht (.tup (ts.map fun t => V.ref t.1))
    refine q _ _ (s1.trans (s2.trans s3)) ?_ A1
    rw [e0]
    exact ⟨t, rfl, ts, h3, zab, fun x hx => s3 _ _ (h4 x hx)⟩
theorem zfI (F : Fun K "fields_of" "fields_of" zbw f fd)  : FnOk P w K mg base CX0 1 f fd ["wishes"] (zdh) := by
 refine F.ok zfo (fun vs H Q E h => ?_) (fun cdv A outer s H vs Q E hr h => ?_)
 · obtain ⟨l, ws, fs, rfl, hw, lf, hin, q⟩ := h
   rfl
 obtain ⟨l, ws, fs, rfl, hw, lf, hin, q⟩ := h
 refine ⟨_, (zah (zap (zhJ (N' := ["wish", "field", "low", "high"]) (js := [none, none, none, none]) rfl B.sorted_ rfl (zbX (N := ["wishes"]) (outer := zag zbw) (by decide +kernel)) (zaT (pv 0)) (fun _ _ _ _ _ => (zaj (i := 0) (show List.Nodup (["wish", "field", "low", "high"] : List Str) by decide +kernel) rfl (Or.inl rfl))) (fun _ _ _ _ _ => zaM) (fun _ _ _ _ _ => (zkR K rfl (pv 0))) (fun _ _ _ _ _ => (zeO K rfl (n := 3) rfl (zam (zaj (i := 1) (show List.Nodup (["wish", "field", "low", "high"] : List Str) by decide +kernel) rfl (Or.inl rfl)) (zam (zaj (i := 2) (show List.Nodup (["wish", "field", "low", "high"] : List Str) by decide +kernel) rfl (Or.inl rfl)) (zam (zaj (i := 3) (show List.Nodup (["wish", "field", "low", "high"] : List Str) by decide +kernel) rfl (Or.inl rfl)) za1))))) (fun _ _ _ _ _ => zaM) (fun _ _ _ _ _ => (pv 1))))), ?_⟩
 refine ⟨_, rfl, l, rfl, ⟨_, SqL.of hw.at'⟩, ?_⟩
 refine zhE ws fs (SqL.of hw.at') (fun x hx => (hw.ok x hx).1) hin lf rfl (fun x hx y1 y2 y3 R h1 h2 => ⟨_, rfl, x.1, rfl, h1, h2⟩) (fun x0 y1 y2 y3 p R h1 h2 => ⟨p.1, _, rfl, SqT.of h1, rfl, _, _, rfl, _, _, rfl, _, _, rfl, rfl, h2⟩) (fun x0 y2 y3 f R h => ⟨_, rfl, h⟩) fun ks nd l6 mem => ?_
 exact ⟨by omega, fun p ms mp mn so hp => q p ms _ (zae hp _) hp zab mn so fun f => (mp.mem_iff).trans (mem f)⟩
theorem zfJ (F : Fun K "check_few" "check_few" zb9 f fd)  : FnOk P w K mg base CX0 1 f fd ["wishes", "fields"] (zkD) := by
 refine F.ok zfp (fun vs H Q E h => ?_) (fun cdv A outer s H vs Q E hr h => ?_)
 · obtain ⟨l, f', xs, ys, rfl, hl, hf, lx, ly, q⟩ := h
   rfl
 obtain ⟨l, f', xs, ys, rfl, hl, hf, lx, ly, q⟩ := h
 refine ⟨_, (zad (zaK (zav zgx (zai zau rfl B.len_ zba (zaa (pv 0) zac)) (zgw (v := .int 7) rfl C_MOST_WISHES ⟨_, rfl⟩) (zaA _)) (zah zdE) zas)
  (zah (zaK (zav zgx (zai zau rfl B.len_ zba (zaa (pv 1) zac)) (zgw (v := .int 3) rfl C_MOST_FIELDS ⟨_, rfl⟩) (zaA _)) (zah zdE) zas))), ?_⟩
 refine ⟨_, rfl, l, _, rfl, .inl (SqL.of hl), _, _, rfl, rfl, _, rfl, ite2 (fun h => absurd (of_decide_eq_true h) (by omega)) (fun _ => ?_)⟩
 exact ⟨_, rfl, f', _, rfl, .inl (SqL.of hf), _, _, rfl, rfl, _, rfl, ite2 (fun h => absurd (of_decide_eq_true h) (by omega)) (fun _ => q)⟩
theorem zc4 (F : Fun K "uncovered_piece" "uncovered_piece" zaR f fd) (G_check_wish : Γ9 P w K mg base) (G_check_wishes : Γ11 P w K mg base) (G_check_few : Γ19 P w K mg base) (G_piece_beside : Γ17 P w K mg base) (G_fields_of : Γ18 P w K mg base) : FnOk P w K mg base CX0 8 f fd ["wish", "wishes"] (zcL) := by
 refine F.ok zcT (fun vs H Q E h => ?_) (fun cdv A outer s H vs Q E hr h => ?_)
 · obtain ⟨a, l, w', os, fs, rfl, hw, kw, hl, lo, lf, i1, i2, q⟩ := h
   rfl
 obtain ⟨a, l, w', os, fs, rfl, hw, kw, hl, lo, lf, i1, i2, q⟩ := h
 refine ⟨_, (zad (zcl (zay G_check_wish (hr.mono (by decide)) rfl (zaa (pv 0) zac)))
  (zad (zcl (zay G_check_wishes (hr.mono (by decide)) rfl (zaa (pv 1) zac)))
  (zad (zcl (zay G_check_few (hr.mono (by decide)) rfl (zaa (pv 1) (zaa (zay G_fields_of (hr.mono (by decide)) rfl (zaa (zar zhi (pv 1) (zaY (zaa (pv 0) zac))) zac)) zac))))
  (zah (zap (zay G_piece_beside (hr.mono (by decide)) rfl (zaa (pv 0) (zaa (pv 1) zac)))))))), ?_⟩
 refine ⟨_, rfl, a, w', rfl, hw, kw, fun H1 s1 => ?_⟩
 have hl1 := hl.same s1
 refine ⟨_, rfl, l, os, rfl, hl1, fun H2 s2 => ?_⟩
 have hl2 := hl1.same s2
 have hw2 := hw.same (s1.trans s2)
 refine ⟨_, rfl, _, rfl, _, rfl, (by show 1 ≤ sizeLine; decide), fun p hp => ?_⟩
 have s3 := zae hp (.lst [V.ref a])
 have e3 : (upd H2 p (.lst [V.ref a])) p = some (.lst [V.ref a]) := zab
 generalize upd H2 p (.lst [V.ref a]) = H3 at *
 have hl3 := hl2.same s3
 refine ⟨l, p, _, _, rfl, rfl, hl3.at', e3, by rw [List.length_map]; exact zeA (by simp; omega), fun c hc => ?_⟩
 have s4 := zae hc (.lst (os.map (fun x => V.ref x.1) ++ [V.ref a]))
 have e4 : (upd H3 c (.lst (os.map (fun x => V.ref x.1) ++ [V.ref a]))) c = some (.lst (os.map (fun x => V.ref x.1) ++ [V.ref a])) := zab
 generalize upd H3 c (.lst (os.map (fun x => V.ref x.1) ++ [V.ref a])) = H4 at *
 have t4 := s1.trans (s2.trans (s3.trans s4))
 have W4 : WsAt H4 c (os ++ [(a, w')]) := by
  refine ⟨by rw [e4, List.map_append]; rfl, fun x hx => ?_, by rw [List.length_append]; simp; omega⟩
  rcases List.mem_append.mp hx with z | z
  · exact ⟨(hl.ok x z).1.same t4, (hl.ok x z).2⟩
  · rw [List.mem_singleton.mp z]; exact ⟨hw.same t4, kw⟩
 refine ⟨c, _, fs, rfl, W4, by omega, fun x hx => ?_, fun r ms H5 s5 nr e5 nd so mem => ?_⟩
 · rcases List.mem_append.mp hx with z | z
   · exact i2 x z
   · rw [List.mem_singleton.mp z]; exact i1
 have t5 := t4.trans s5
 have lm : ms.length ≤ fs.length := zfS nd fun f hf' => by
  obtain ⟨x, hx, hf2⟩ := (mem f).mp hf'
  obtain ⟨p', hp', rfl⟩ := List.mem_map.mp hf2
  rcases List.mem_append.mp hx with z | z
  · exact i2 x z p' hp'
  · rw [List.mem_singleton.mp z] at hp'; exact i1 p' hp'
 refine ⟨l, r, _, _, rfl, (hl.same t5).at', e5, by rw [List.length_map]; exact lo, by rw [List.length_map]; omega, ?_⟩
 refine ⟨_, rfl, _, rfl, a, l, w', os, rfl, hw.same t5, kw, Nat.le_trans (zi4 kw i1) lf, hl.same t5, lo, fun x hx => Nat.le_trans (zi4 (hl.ok x hx).2 (i2 x hx)) (by omega), fun v H6 s6 T6 A6 => q v H6 (t5.trans s6) T6 A6⟩
theorem zgz (F : Fun K "_law_well" "_law_well" zbt f fd)  : FnOk P w K mg base CX0 1 f fd ["script"] (zid K) := by
 refine F.ok sc_law_well (fun vs H Q E h => ?_) (fun cdv A outer s H vs Q E hr h => ?_)
 · obtain ⟨a, ns, rfl, hS, h63, q⟩ := h
   rfl
 obtain ⟨a, ns, rfl, hS, h63, q⟩ := h
 refine ⟨_, (zad (zeM (N' := ["cell"]) (js := [none]) (i := 1) sc_law_well.nd rfl (Or.inl rfl) rfl (zbX (N := ["script", "great", "small", "seed", "number"]) (outer := zag zbt) (by decide +kernel)) (zaT (zaZ zeD (pv 0) zbn (zbm zaf))) (fun _ _ _ _ _ => (zaj (i := 0) (show List.Nodup (["cell"] : List Str) by decide +kernel) rfl (Or.inl rfl))) (fun _ _ _ _ _ => zcb (zav zl8 (zai ze8 rfl B.abs_ zjs (zaa (pv 0) zac)) (zar zbN zaf zaf) (zaA _))) (fun _ _ _ _ _ => (zar zc3 (zai ze8 rfl B.abs_ zjs (zaa (pv 0) zac)) (zar zdk (zar zbN zaf zaf) (zar zbN zaf zaf)))))
  (zad (zeM (N' := ["cell"]) (js := [none]) (i := 2) sc_law_well.nd rfl (Or.inl rfl) rfl (zbX (N := ["script", "great", "small", "seed", "number"]) (outer := zag zbt) (by decide +kernel)) (zaT (zaZ zeD (pv 0) zbn (zbm zaf))) (fun _ _ _ _ _ => (zaj (i := 0) (show List.Nodup (["cell"] : List Str) by decide +kernel) rfl (Or.inl rfl))) (fun _ _ _ _ _ => zcb (zav zjQ (zai ze8 rfl B.abs_ zjs (zaa (pv 0) zac)) (zar zbN zaf zaf) (zaA _))) (fun _ _ _ _ _ => (zar zc3 (pv 0) zaf)))
  (zad (zao (i := 3) sc_law_well.nd rfl (Or.inl rfl) (zar zaL zaf (zai zau rfl B.len_ zba (zaa (pv 2) zac))))
  (zad (zce PassesOwn.never rfl (zaT (pv 2)) (zaj (i := 4) sc_law_well.nd rfl (Or.inl rfl)) (zah (zao (i := 3) sc_law_well.nd rfl (Or.inl rfl) (zar zc3 (zar zaL (zar zaL (zar zdk (pv 3) zaf) (zar zdk (pv 4) zaf)) zaf) zaf))))
  (zah (zap (zaY (zaa (pv 1) (zaa (pv 2) (zaa (pv 3) (zaa zaf zac))))))))))), ?_⟩
 have cut : cutV (ns.map V.int) none (some 63) = ns.map V.int := by
  unfold cutV
  rw [show HT.sIx (ns.map V.int).length 0 none = 0 from rfl, show HT.sIx (ns.map V.int).length (ns.map V.int).length (some 63) = min 63 (ns.map V.int).length from HT.sIx_nat _ _ 63]
  rw [List.drop_zero]
  exact List.take_of_length_le (by rw [List.length_map]; omega)
 have m60 : zlS (10 ^ (60 : Int).toNat) (10 ^ (60 : Int).toNat) := ⟨by decide, by decide⟩
 refine ⟨_, rfl, _, rfl, a, _, rfl, hS, fun p1 hp1 => ⟨p1, rfl, ⟨_, SqL.of zab⟩, fun p hp => ?_⟩⟩
 refine ziP (cap := []) ns (fun n => (if n < 0 then -n else n) % (10 ^ (60 : Int).toNat * 10 ^ (60 : Int).toNat)) (fun n => decide ((10 : Int) ^ (18 : Int).toNat ≤ (if n < 0 then -n else n))) (by omega) (SqL.of (by rw [zab, cut])) hp ?_ ?_ ?_ ?_
 · rfl
 · exact fun n H' R s r => ⟨_, rfl, _, rfl, _, _, rfl, rfl, pw10 (by decide) (by decide), _, _, rfl, rfl, _, rfl, r⟩
 · exact fun n H' R s r => ⟨_, rfl, _, rfl, _, _, rfl, rfl, pw10 (by decide) (by decide), _, _, rfl, rfl, pw10 (by decide) (by decide), _, _, rfl, rfl, m60, _, _, rfl, rfl, (by show (0 : Int) < 10 ^ (60 : Int).toNat * 10 ^ (60 : Int).toNat; decide), r⟩
 intro H1 s1 h1
 have t1 : Same H H1 := (zae hp1 _).trans s1
 have pn1 : H p = none := (zae hp1 _).free hp
 refine ⟨_, rfl, _, rfl, a, _, rfl, t1.seq hS, fun p2 hp2 => ⟨p2, rfl, ⟨_, SqL.of zab⟩, fun p' hp' => ?_⟩⟩
 refine ziP (cap := []) ns (fun n => n % 2147483563) (fun n => decide ((if n < 0 then -n else n) < (10 : Int) ^ (18 : Int).toNat)) (by omega) (SqL.of (by rw [zab, cut])) hp' ?_ ?_ ?_ ?_
 · rfl
 · exact fun n H' R s r => ⟨_, rfl, _, rfl, _, _, rfl, rfl, pw10 (by decide) (by decide), _, _, rfl, rfl, _, rfl, r⟩
 · exact fun n H' R s r => ⟨_, rfl, _, _, rfl, rfl, (by show (0 : Int) < 2147483563; decide), r⟩
 intro H2 s2 h2
 have t12 : Same H1 H2 := (zae hp2 _).trans s2
 have t2 : Same H H2 := t1.trans t12
 have g2 := t12 _ _ h1
 have n2 : H1 p' = none := (zae hp2 _).free hp'
 have lb : ∀ x ∈ (ns.filter fun n => decide ((if n < 0 then -n else n) < (10 : Int) ^ (18 : Int).toNat)).map (fun n => n % 2147483563), 0 ≤ x ∧ x < wM := fun x hx => by
  obtain ⟨y, _, rfl⟩ := List.mem_map.mp hx
  exact ⟨Int.emod_nonneg _ (by decide), Int.emod_lt_of_pos _ (by decide)⟩
 have ll := List.length_filter_le (fun n => decide ((if n < 0 then -n else n) < (10 : Int) ^ (18 : Int).toNat)) ns
 have gg := List.length_filter_le (fun n => decide ((10 : Int) ^ (18 : Int).toNat ≤ (if n < 0 then -n else n))) ns
 generalize hls : (ns.filter fun n => decide ((if n < 0 then -n else n) < (10 : Int) ^ (18 : Int).toNat)).map (fun n => n % 2147483563) = ls at *
 have lz : ls.length ≤ 63 := by rw [← hls, List.length_map]; omega
 generalize hgs : (ns.filter fun n => decide ((10 : Int) ^ (18 : Int).toNat ≤ (if n < 0 then -n else n))).map (fun n => (if n < 0 then -n else n) % (10 ^ (60 : Int).toNat * 10 ^ (60 : Int).toNat)) = gs at *
 have gz : gs.length ≤ 63 := by rw [← hgs, List.length_map]; omega
 refine ⟨_, rfl, p', _, rfl, .inl (SqL.of h2), _, _, rfl, rfl, ?_⟩
 refine ⟨_, rfl, p', rfl, ⟨_, SqL.of h2⟩, zcD (K := K) (a := p') (xs := ls.map V.int) (fun i σ H' => ∃ (st : Int) (x4 : Option V), σ = [some (.ref a), some (.ref p), some (.ref p'), some (.int st), x4] ∧ H' = H2 ∧ 0 ≤ st ∧ st < wM) ⟨_, none, rfl, rfl, by omega, by rw [List.length_map]; unfold wM; omega⟩ (fun i σ H' _ ⟨_, _, _, e, _⟩ => by rw [e]; exact SqL.of h2) ?_ ?_⟩
 · rintro i x σ H' hx ⟨st, x4, rfl, rfl, z0, z1⟩
   rw [List.getElem?_map] at hx
   cases hn : ls[i]? with
   | none => rw [hn] at hx; cases hx
   | some y =>
    rw [hn] at hx
    obtain rfl : V.int y = x := Option.some.inj hx
    obtain ⟨y0, y1⟩ := lb y (List.mem_of_getElem? hn)
    have sm : ∀ z : Int, z.natAbs < 2 ^ 100 → z.natAbs < 2 ^ 1000 := fun z h => Nat.lt_of_lt_of_le h (by decide)
    refine ⟨_, rfl, _, _, rfl, rfl, ⟨sm _ (by unfold wM at z1; omega), by decide⟩, _, rfl, _, _, rfl, rfl, ⟨sm _ (by unfold wM at y1; omega), by decide⟩, _, _, rfl, rfl, _, _, rfl, rfl, _, _, rfl, rfl, (by show (0 : Int) < 2147483563; decide), _, _, rfl, rfl, Int.emod_nonneg _ (by decide), Int.emod_lt_of_pos _ (by decide)⟩
 · rintro σ H' ⟨st, x4, rfl, rfl, z0, z1⟩
   refine ⟨_, rfl, _, rfl, _, rfl, (by show 4 ≤ sizeLine; decide), fun p5 hp5 => ?_⟩
   have s5 := zae hp5 (.lst [V.ref p, V.ref p', V.int st, V.int 0])
   exact q p5 p p' _ ⟨⟨gs, ls, st, 0, zab, s5 _ _ g2, s5 _ _ h2, gz, lz, lb, z0, z1, by decide, by decide⟩, zaz h1 n2, (zaz g2 hp5).symm, (zaz h2 hp5).symm⟩ (t2.trans s5) (t2.free hp5) pn1
theorem zgA (F : Fun K "_law_take" "_law_take" zcv f fd)  : FnOk P w K mg base CX0 1 f fd ["well", "many"] (zie) := by
 refine F.ok sc_law_take (fun vs H Q E h => ?_) (fun cdv A outer s H vs Q E hr h => ?_)
 · obtain ⟨b, g, l, n, many, rfl, Bg, hn, hm, hm2, q⟩ := h
   rfl
 obtain ⟨b, g, l, n, many, rfl, Bg, hn, hm, hm2, q⟩ := h
 refine ⟨_, (zad (zaK (zav (zkl (zca hr)) (zaG zaI (pv 0) zaf (fun _ _ => rfl)) (zaY zac) (zaA _)) (zad (zao (i := 2) sc_law_take.nd rfl (Or.inl rfl) (zaG zaI (zaG zaI (pv 0) zaf (fun _ _ => rfl)) zaf (fun _ _ => rfl)))
  (zad (zcX (zar zhh (pv 2) (pv 1)) (ziB (zaG zaI (pv 0) zaf (fun _ _ => rfl)) zaf zeE))
  (zad (zaK (zav zjQ (pv 2) (pv 1) (zaA _)) (zah (zcl (zhK PySem.F.plainAttrs_list PySem.F.slot_list_pop PySem.F.type_list_pop zjT (zaG zaI (pv 0) zaf (fun _ _ => rfl)) (zaa zaf zac)))) zas)
  (zah (zap (zar zc3 (pv 2) (pv 1))))))) zas)
  (zad (zcX (zar zaL (zaG zaI (pv 0) zaf (fun _ _ => rfl)) zaf) (ziB (pv 0) zaf zeE))
  (zad (zao (i := 3) sc_law_take.nd rfl (Or.inl rfl) zaf)
  (zad (zaK (zav (zkl (zca hr)) (zaG zaI (pv 0) zaf (fun _ _ => rfl)) (zaY zac) (zaA _)) (zah (zao (i := 3) sc_law_take.nd rfl (Or.inl rfl) (zar zaL (zaG zaI (zaG zaI (pv 0) zaf (fun _ _ => rfl)) (zar zc3 (zaG zaI (pv 0) zaf (fun _ _ => rfl)) (zai zau rfl B.len_ zba (zaa (zaG zaI (pv 0) zaf (fun _ _ => rfl)) zac))) (fun _ _ => rfl)) zaf))) zas)
  (zad (zao (i := 2) sc_law_take.nd rfl (Or.inl rfl) (zar zc3 (zar zbN (zar zaL (zaG zaI (pv 0) zaf (fun _ _ => rfl)) (zar zdk (pv 3) (zar zaL (zar zdk (zaG zaI (pv 0) zaf (fun _ _ => rfl)) zaf) zaf))) zaf) zaf))
  (zad (zcX (zar zc3 (zar zaL (zar zaL (zar zdk (zaG zaI (pv 0) zaf (fun _ _ => rfl)) zaf) (pv 2)) (zaG zaI (pv 0) zaf (fun _ _ => rfl))) zaf) (ziB (pv 0) zaf zeE))
  (zah (zap (zar zc3 (zar zhh (pv 2) zaf) (pv 1)))))))))), ?_⟩
 obtain ⟨gs, ls, sd, c, e1, e2, e3, z1, z2, z4, z5, z6, z7, z8⟩ := id Bg.ex
 refine ⟨_, rfl, b, _, 0, _, rfl, rfl, SqL.of e1, rfl, sz0, fun p hp => ?_⟩
 have s1 := zae hp (.lst [])
 have B2 := Bg.same s1
 have e1' := s1 _ _ e1
 have e2' := s1 _ _ e2
 have e3' := s1 _ _ e3
 refine zly (SqL.of e2') (SqL.of zab) ⟨_, rfl, ?_⟩
 generalize upd H p (.lst []) = H2 at *
 have S2 : SameB b g H H2 := s1.sameB
 clear s1
 have bg := Bg.bg
 have bl := Bg.bl
 have gl := Bg.gl
 cases gs with
 | cons x r =>
  refine iteT ?_
  refine ⟨_, rfl, b, _, 0, _, rfl, rfl, SqL.of e1', rfl, g, _, 0, _, rfl, rfl, SqL.of e2', at0, ?_⟩
  refine ⟨_, rfl, _, rfl, _, _, rfl, rfl, ⟨hm, Int.lt_of_lt_of_le hm2 (by decide)⟩, _, rfl, b, _, 0, _, rfl, rfl, SqL.of e1', rfl, g, _, 0, 0, rfl, rfl, e2', ix0, ?_⟩
  have f2 : (upd H2 g (.lst (((x :: r).map V.int).set 0 (V.int (x / many))))) g = some (.lst (((x / many) :: r).map V.int)) := zab
  have f1 : (upd H2 g (.lst (((x :: r).map V.int).set 0 (V.int (x / many))))) b = some (.lst [V.ref g, V.ref l, V.int sd, V.int c]) := by rw [zan bg]; exact e1'
  have f3 : (upd H2 g (.lst (((x :: r).map V.int).set 0 (V.int (x / many))))) l = some (.lst (ls.map V.int)) := by rw [zan (Ne.symm gl)]; exact e3'
  have S3 : SameB b g H (upd H2 g (.lst (((x :: r).map V.int).set 0 (V.int (x / many))))) := fun a o h1 h2 h3 => by rw [zan h3]; exact S2 a o h1 h2 h3
  dsimp only
  generalize upd H2 g (.lst (((x :: r).map V.int).set 0 (V.int (x / many)))) = H3 at *
  refine ⟨_, rfl, _, rfl, _, _, rfl, rfl, _, rfl, ite2 (fun _ => ?_) (fun _ => ?_)⟩
  · refine ⟨_, rfl, b, _, 0, _, rfl, rfl, SqL.of f1, rfl, .inl ⟨rfl, _, SqL.of f2⟩, g, _, 0, 0, _, rfl, rfl, f2, by decide, by decide, (zgU (ix0 (x := V.int (x / many)) (r := r.map V.int))).1, rfl, ?_⟩
    refine ⟨_, rfl, _, rfl, _, _, rfl, rfl, hm, q _ _ (Int.emod_nonneg _ (by omega)) (Int.emod_lt_of_pos _ hm) ⟨⟨r, ls, sd, c, ?_, zab, ?_, by simp only [List.length_cons] at z1; omega, z2, z4, z5, z6, z7, by omega⟩, gl, bg, bl⟩ ?_⟩
    · rw [zan bg]; exact f1
    · rw [zan (Ne.symm gl)]; exact f3
    · intro a o h1 h2 h3
      rw [zan h3]
      exact S3 a o h1 h2 h3
  · exact ⟨_, rfl, _, rfl, _, _, rfl, rfl, hm, q _ _ (Int.emod_nonneg _ (by omega)) (Int.emod_lt_of_pos _ hm) ⟨⟨x / many :: r, ls, sd, c, f1, f2, f3, by simp only [List.length_cons] at z1 ⊢; omega, z2, z4, z5, z6, z7, by omega⟩, gl, bg, bl⟩ S3⟩
 | nil =>
  refine iteF ?_
  refine ⟨_, rfl, b, _, 3, _, rfl, rfl, SqL.of e1', rfl, _, _, rfl, rfl, _, rfl, b, _, 3, 3, rfl, rfl, e1', rfl, ?_⟩
  have f1 : (upd H2 b (.lst ([V.ref g, V.ref l, V.int sd, V.int c].set 3 (V.int (c + 1))))) b = some (.lst [V.ref g, V.ref l, V.int sd, V.int (c + 1)]) := zab
  have f2 : (upd H2 b (.lst ([V.ref g, V.ref l, V.int sd, V.int c].set 3 (V.int (c + 1))))) g = some (.lst []) := by rw [zan (Ne.symm bg)]; exact e2'
  have f3 : (upd H2 b (.lst ([V.ref g, V.ref l, V.int sd, V.int c].set 3 (V.int (c + 1))))) l = some (.lst (ls.map V.int)) := by rw [zan (Ne.symm bl)]; exact e3'
  have S3 : SameB b g H (upd H2 b (.lst ([V.ref g, V.ref l, V.int sd, V.int c].set 3 (V.int (c + 1))))) := fun a o h1 h2 h3 => by rw [zan h2]; exact S2 a o h1 h2 h3
  dsimp only
  generalize upd H2 b (.lst ([V.ref g, V.ref l, V.int sd, V.int c].set 3 (V.int (c + 1)))) = H3 at *
  have c1 : 0 ≤ c + 1 := by omega
  have c2 : c + 1 ≤ 2 ^ 41 := by omega
  refine zby ?_
  dsimp only
  refine zbE (fun σ' H' => ∃ (cell : Int), σ' = [some (.ref b), some (.int many), none, some (.int cell)] ∧ 1 ≤ cell ∧ cell ≤ wM ∧ H' b = some (.lst [V.ref g, V.ref l, V.int sd, V.int (c + 1)]) ∧ H' g = some (.lst []) ∧ H' l = some (.lst (ls.map V.int)) ∧ SameB b g H H') (fun Z hZ => ?_) ?_
  · refine ⟨_, rfl, b, _, 1, _, rfl, rfl, SqL.of f1, rfl, sz0, fun p4 hp4 => ?_⟩
    have s4 := zae hp4 (.lst [])
    have k1 := s4 _ _ f1
    have k2 := s4 _ _ f2
    have k3 := s4 _ _ f3
    have S4 := S3.trans s4.sameB
    refine zly (SqL.of k3) (SqL.of zab) ⟨_, rfl, ?_⟩
    generalize upd H3 p4 (.lst []) = H4 at *
    cases ls with
    | nil => exact iteF (hZ _ _ ⟨1, rfl, by decide, by decide, k1, k2, k3, S4⟩)
    | cons y ys =>
     refine iteT ?_
     have lpos : (0 : Int) < (((y :: ys).map V.int).length : Int) := by rw [List.length_map, List.length_cons]; omega
     have i0 := Int.emod_nonneg (c + 1) (Int.ne_of_gt lpos)
     have i1 := Int.emod_lt_of_pos (c + 1) lpos
     obtain ⟨v, hv, hvm⟩ := zlQ (ls := y :: ys) i0 (by rw [List.length_map] at i1 ⊢; exact i1)
     obtain ⟨v0, v1⟩ := z4 v hvm
     refine ⟨_, rfl, b, _, 1, _, rfl, rfl, SqL.of k1, rfl, _, rfl, b, _, 3, _, rfl, rfl, SqL.of k1, rfl, _, rfl, b, _, 1, _, rfl, rfl, SqL.of k1, rfl, l, _, rfl, .inl (SqL.of k3), _, _, rfl, rfl, lpos, l, _, _, _, rfl, rfl, SqL.of k3, hv, _, _, rfl, rfl, ?_⟩
     exact hZ _ _ ⟨v + 1, rfl, by omega, by omega, k1, k2, k3, S4⟩
  rintro σ' H4 ⟨cell, rfl, l0, l1, k1, k2, k3, S4⟩
  have sm : ∀ z : Int, z.natAbs < 2 ^ 900 → z.natAbs < 2 ^ 1000 := fun z h => Nat.lt_of_lt_of_le h (by decide)
  have b3 : (c + 1).natAbs < 2 ^ 900 := Nat.lt_of_le_of_lt (show (c + 1).natAbs ≤ 2 ^ 41 by omega) (by decide)
  have b4 : ((c + 1) * 3163 + 1).natAbs < 2 ^ 900 := Nat.lt_of_le_of_lt (show ((c + 1) * 3163 + 1).natAbs ≤ 2 ^ 60 by omega) (by decide)
  have b5 : cell.natAbs < 2 ^ 900 := Nat.lt_of_le_of_lt (show cell.natAbs ≤ 2 ^ 60 by unfold wM at l1; omega) (by decide)
  have big : (sd + cell * ((c + 1) * 3163 + 1)).natAbs < 2 ^ 1000 := by
   have a5 : cell * ((c + 1) * 3163 + 1) ≤ 2 ^ 60 * 2 ^ 60 := Int.mul_le_mul (by unfold wM at l1; omega) (by omega) (by omega) (by decide)
   have a6 : 0 ≤ cell * ((c + 1) * 3163 + 1) := Int.mul_nonneg (by omega) (by omega)
   generalize cell * ((c + 1) * 3163 + 1) = y at *
   have a8 : (sd + y).natAbs < 2 ^ 125 := by unfold wM at z6; omega
   exact Nat.lt_of_lt_of_le a8 (by decide)
  refine ⟨_, rfl, b, _, 2, _, rfl, rfl, SqL.of k1, rfl, _, rfl, _, rfl, b, _, 3, _, rfl, rfl, SqL.of k1, rfl, _, _, rfl, rfl, ⟨sm _ b3, by decide⟩, _, _, rfl, rfl, _, _, rfl, rfl, ⟨sm _ b5, sm _ b4⟩, _, _, rfl, rfl, _, _, rfl, rfl, ⟨by decide, by decide, big⟩, _, _, rfl, rfl, (by show (0 : Int) < 2147483563; decide), ?_⟩
  dsimp only
  generalize (sd + cell * ((c + 1) * 3163 + 1)) ^ (5 : Int).toNat = y
  have y0 := Int.emod_nonneg y (show (2147483563 : Int) ≠ 0 by decide)
  have y1 := Int.emod_lt_of_pos y (show (0 : Int) < 2147483563 by decide)
  generalize y % 2147483563 = u at *
  have b6 : sd.natAbs < 2 ^ 1000 := sm _ (Nat.lt_of_le_of_lt (show sd.natAbs ≤ 2 ^ 60 by unfold wM at z6; omega) (by decide))
  refine ⟨_, rfl, b, _, 2, _, rfl, rfl, SqL.of k1, rfl, _, _, rfl, rfl, ⟨b6, by decide⟩, _, rfl, _, _, rfl, rfl, _, rfl, b, _, 3, _, rfl, rfl, SqL.of k1, rfl, _, _, rfl, rfl, _, _, rfl, rfl, (by show (0 : Int) < 2147483563; decide), ?_⟩
  refine ⟨_, rfl, b, _, 2, 2, rfl, rfl, k1, rfl, ?_⟩
  dsimp only
  generalize sd * 40692 + u + (c + 1) = v
  have v0 := Int.emod_nonneg v (show (2147483563 : Int) ≠ 0 by decide)
  have v1 := Int.emod_lt_of_pos v (show (0 : Int) < 2147483563 by decide)
  generalize v % 2147483563 = t at *
  refine ⟨_, rfl, _, _, rfl, rfl, ⟨by decide, by decide⟩, _, rfl, _, _, rfl, rfl, hm, ?_⟩
  refine q _ _ (Int.emod_nonneg _ (by omega)) (Int.emod_lt_of_pos _ hm) ⟨⟨[], ls, t, c + 1, zab, ?_, ?_, by simp, z2, z4, v0, v1, c1, by omega⟩, gl, bg, bl⟩ ?_
  · rw [zan (Ne.symm bg)]; exact k2
  · rw [zan (Ne.symm bl)]; exact k3
  · intro a o h1 h2 h3
    rw [zan h2]
    exact S4 a o h1 h2 h3
theorem zgC (F : Fun K "_law_name" "_law_name" zbQ f fd) (G_law_take : Γ22 P w K mg base) : FnOk P w K mg base CX0 2 f fd ["well", "most"] (zif) := by
 refine F.ok sc_law_name (fun vs H Q E h => ?_) (fun cdv A outer s H vs Q E hr h => ?_)
 · obtain ⟨b, g, l, n, most, rfl, Bg, hn, m1, m8, q⟩ := h
   rfl
 obtain ⟨b, g, l, n, most, rfl, Bg, hn, m1, m8, q⟩ := h
 refine ⟨_, (zad (zao (i := 2) sc_law_name.nd rfl (Or.inr rfl) zdR)
  (zah (zap (zhK PySem.F.plainAttrs_str PySem.F.slot_str_join PySem.F.type_str_join zkX zdR (zaa (zc0 (N' := ["k", "well", "letters"]) (js := [none, some 0, some 2]) rfl (zbX (N := ["well", "most", "letters"]) (outer := zag zbQ) (by decide +kernel)) (zcZ rfl B.range_ (zaa (zar zaL zaf (zay G_law_take (hr.mono (by decide)) rfl (zaa (pv 0) (zaa (pv 1) zac)))) zac)) (fun _ _ _ _ _ => (zaj (i := 0) (show List.Nodup (["k", "well", "letters"] : List Str) by decide +kernel) rfl (Or.inl rfl))) (fun _ _ _ _ _ => zaM) (fun _ _ _ _ _ => (zaG zkp (pv 2) (zay G_law_take (hr.mono (by decide)) rfl (zaa (pv 1) (zaa zaf zac))) (fun _ _ => rfl)))) zac))))), ?_⟩
 refine zby ?_
 refine ⟨rfl, _, rfl, _, rfl, b, g, l, n, most, rfl, Bg, by omega, by omega, zeY (by omega), fun r H2 r0 r1 B2 S2 => ?_⟩
 refine ⟨_, _, rfl, rfl, _, rfl, by omega, by omega, fun p hp => ?_⟩
 obtain ⟨pb, pg, pl⟩ := B2.free hp
 have s3 := zae hp (.lst [])
 have np : H p = none := B2.back S2 p hp
 refine zdG (n := (1 + r).toNat) (fun i σ' ys H' => (∃ v, σ' = [v, some (.ref b), some (.str "abcdefghijklmnopqrstuvwxyz")]) ∧ SameB b g H H' ∧ Well H' b g l (n + 1 + i) ∧ H' p = some (.lst ys) ∧ ∃ cs : List Nat, ys = (cs.map fun c => (⟨#[c]⟩ : Str)).map V.str ∧ cs.length = i ∧ ∀ c ∈ cs, zbr c = true) ?_ ?_ ?_ ?_
 · exact ⟨⟨none, rfl⟩, S2.trans s3.sameB, (B2.same s3).mono (by omega), zab, [], rfl, rfl, fun c hc => by simp at hc⟩
 · rintro i σ' ys H' hi ⟨_, _, _, h1, cs, rfl, h2, _⟩
   exact ⟨h1, by rw [List.length_map, List.length_map, h2]; exact zax (by omega)⟩
 · rintro i σ' ys H4 N hi ⟨⟨v, rfl⟩, S4, B4, h1, cs, rfl, h2, h3⟩ hN
   refine ⟨_, rfl, _, rfl, b, g, l, _, 26, rfl, B4, by omega, by decide, by decide, fun k H5 k0 k1 B5 S5 => ?_⟩
   obtain ⟨c, hc, ok⟩ := zlP k0 k1
   have h5 := S5 _ _ h1 pb pg
   refine ⟨_, _, c, rfl, rfl, (by show 26 ≤ sizeLine; decide), hc, h5, hN _ _ _ ⟨⟨_, rfl⟩, ?_, ?_, zab, cs ++ [c], ?_, ?_, ?_⟩⟩
   · exact (S4.trans S5).off np
   · exact (B5.off pb pg pl).mono (by omega)
   · rw [List.map_append, List.map_append]; rfl
   · rw [List.length_append, h2]; rfl
   · intro c' hc'
     rcases List.mem_append.mp hc' with z | z
     · exact h3 c' z
     · rw [List.mem_singleton.mp z]; exact ok
 · rintro σ' ys H4 ⟨_, S4, B4, h1, cs, rfl, h2, h3⟩
   refine ⟨_, _, _, rfl, rfl, SqL.of h1, zkZ cs (by omega), q _ _ (zhY (by omega) (by omega) h3) (B4.mono (by omega)) S4⟩
theorem zeT (F : Fun K "_law_fields" "_law_fields" zbG f fd) (G_law_name : Γ23 P w K mg base) (G_law_take : Γ22 P w K mg base) : FnOk P w K mg base CX0 3 f fd ["well", "many"] (zdM) := by
 refine F.ok sc_law_fields (fun vs H Q E h => ?_) (fun cdv A outer s H vs Q E hr h => ?_)
 · obtain ⟨b, g, l, n, many, rfl, Bg, hn, m1, m6, q⟩ := h
   rfl
 obtain ⟨b, g, l, n, many, rfl, Bg, hn, m1, m6, q⟩ := h
 refine ⟨_, (zad (zao (i := 2) sc_law_fields.nd rfl (Or.inl rfl) zdR)
  (zad (zao (i := 3) sc_law_fields.nd rfl (Or.inl rfl) (zaY (zaa (zay G_law_name (hr.mono (by decide)) rfl (zaa (pv 0) (zaa zaf zac))) zac)))
  (zad (zce PassesOwn.never rfl (zcZ rfl B.range_ (zaa (zay G_law_take (hr.mono (by decide)) rfl (zaa (pv 0) (zaa (pv 1) zac))) zac)) (zaj (i := 4) sc_law_fields.nd rfl (Or.inl rfl)) (zad (zao (i := 5) sc_law_fields.nd rfl (Or.inl rfl) (zay G_law_take (hr.mono (by decide)) rfl (zaa (pv 0) (zaa zaf zac))))
  (zad (zao (i := 6) sc_law_fields.nd rfl (Or.inl rfl) (zaG zaI (pv 3) (zay G_law_take (hr.mono (by decide)) rfl (zaa (pv 0) (zaa (zai zau rfl B.len_ zba (zaa (pv 3) zac)) zac))) (fun _ _ => rfl)))
  (zad (zao (i := 7) sc_law_fields.nd rfl (Or.inl rfl) (zaG zkp (pv 2) (zay G_law_take (hr.mono (by decide)) rfl (zaa (pv 0) (zaa zaf zac))) (fun _ _ => rfl)))
  (zad (zao (i := 8) sc_law_fields.nd rfl (Or.inl rfl) (zay G_law_take (hr.mono (by decide)) rfl (zaa (pv 0) (zaa (zai zcp rfl B.len_ zba (zaa (pv 6) zac)) zac))))
  (zad (zao (i := 9) sc_law_fields.nd rfl (Or.inl rfl) (zaZ zgo (zaG zaI (zaY (zaa (zar zcB (pv 7) (pv 6)) (zaa (zar zcB (pv 6) (pv 7)) (zaa (zar zcB (zar zcB (zaZ zgo (pv 6) zbn (zbm (pv 8))) (pv 7)) (zaZ zgo (pv 6) (zbm (zar zaL (pv 8) zaf)) zbn)) (zaa (pv 7) zac))))) (pv 5) (fun _ _ => rfl)) zbn (zbm zaf)))
  (zad (zaK (zav zdU (pv 5) zaf (zaA _)) (zah (zao (i := 9) sc_law_fields.nd rfl (Or.inl rfl) (zay G_law_name (hr.mono (by decide)) rfl (zaa (pv 0) (zaa zaf zac))))) zas)
  (zah (zaK (zav zfA (pv 9) (pv 3) (by with_unfolding_all rfl)) (zah (zcl (zhK PySem.F.plainAttrs_list PySem.F.slot_list_append PySem.F.type_list_append zbU (pv 3) (zaa (pv 9) zac)))) zas)))))))))
  (zah (zap (zai zf0 rfl B.sorted_ zea (zaa (pv 3) zac))))))), ?_⟩
 refine zby ?_
 refine ⟨_, rfl, b, g, l, n, 7, rfl, Bg, by omega, by decide, by decide, fun x0 H1 ok0 B1 S1 => ?_⟩
 refine ⟨(by show 1 ≤ sizeLine; decide), fun r hr' => ?_⟩
 obtain ⟨rb, rg, rl⟩ := B1.free hr'
 have nr : H r = none := B1.back S1 r hr'
 have s2 := zae hr' (.lst [V.str x0])
 have e2 : (upd H1 r (.lst [V.str x0])) r = some (.lst [V.str x0]) := zab
 have B2 := B1.same s2
 have S2 := S1.trans s2.sameB
 generalize upd H1 r (.lst [V.str x0]) = H2 at *
 refine ⟨_, rfl, _, rfl, b, g, l, _, many, rfl, B2, by omega, by omega, zeY (by omega), fun c H3 c0 c1 B3 S3 => ?_⟩
 have e3 := S3 _ _ e2 rb rg
 have S03 := S2.trans S3
 refine ⟨c, rfl, by omega, by omega, zfR (lo := 0) (n := c.toNat) (fun i σ H' => (∃ y4 y5 y6 y7 y8 y9, σ = [some (.ref b), some (.int many), some (.str "abcdefghijklmnopqrstuvwxyz"), some (.ref r), y4, y5, y6, y7, y8, y9]) ∧ SameB b g H H' ∧ Well H' b g l (n + 13 + 20 * i) ∧ ∃ ts : List Str, H' r = some (.lst (ts.map V.str)) ∧ ts.Nodup ∧ 1 ≤ ts.length ∧ ts.length ≤ i + 1 ∧ ∀ t ∈ ts, FieldOk t) ?_ ?_ ?_⟩
 · exact ⟨⟨none, none, none, none, none, none, rfl⟩, S03, B3.mono (by omega), [x0], e3, by simp, by simp, by simp, fun t ht => by rw [List.mem_singleton.mp ht]; exact ok0⟩
 · rintro i σ H4 hi ⟨⟨y4, y5, y6, y7, y8, y9, rfl⟩, S4, B4, ts, e4, nd, l1, l2, ok⟩
   refine ⟨_, rfl, b, g, l, _, 4, rfl, B4, by omega, by decide, by decide, fun pick H5 p0 p1 B5 S5 => ?_⟩
   have e5 := S5 _ _ e4 rb rg
   refine ⟨_, rfl, _, rfl, _, rfl, r, _, rfl, .inl (SqL.of e5), b, g, l, _, _, rfl, B5, by omega, by rw [List.length_map]; omega, zeY (by rw [List.length_map]; omega), fun k H6 k0 k1 B6 S6 => ?_⟩
   have e6 := S6 _ _ e5 rb rg
   rw [List.length_map] at k1
   obtain ⟨j, rfl⟩ : ∃ j : Nat, k = (j : Int) := ⟨k.toNat, by omega⟩
   obtain ⟨first, ef⟩ : ∃ f, ts[j]? = some f := ⟨ts[j]'(by omega), List.getElem?_eq_getElem (by omega)⟩
   have hf : atI (ts.map V.str) (j : Int) = some (V.str first) := zbC (by rw [List.getElem?_map, ef]; rfl)
   have okf := ok first (List.mem_of_getElem? ef)
   refine ⟨r, _, _, _, rfl, rfl, SqL.of e6, hf, ?_⟩
   refine ⟨_, rfl, _, rfl, b, g, l, _, 26, rfl, B6, by omega, by decide, by decide, fun k H7 k0 k1 B7 S7 => ?_⟩
   have e7 := S7 _ _ e6 rb rg
   obtain ⟨c, hc, okc⟩ := zlP k0 k1
   refine ⟨_, _, c, rfl, rfl, (by show 26 ≤ sizeLine; decide), hc, ?_⟩
   have okl : FieldOk (⟨#[c]⟩ : Str) := ⟨by show 1 ≤ 1; decide, by show 1 ≤ 8; decide, fun c' hc' => by
    have : c' = c := by simpa using hc'
    rw [this]; exact okc⟩
   generalize (⟨#[c]⟩ : Str) = letter at *
   have f1 := okf.one
   have f8 := okf.eight
   have g1 := okl.one
   have g8 := okl.eight
   have sz : (100 : Nat) ≤ sizeLine := by decide
   refine ⟨_, rfl, _, rfl, _, rfl, by omega, b, g, l, _, _, rfl, B7, by omega, by omega, zeY (by omega), fun at' H8 a0 a1 B8 S8 => ?_⟩
   have e8 := S8 _ _ e7 rb rg
   have S48 := S4.trans (S5.trans (S6.trans (S7.trans S8)))
   refine ⟨_, rfl, _, rfl, _, _, rfl, rfl, by omega, _, rfl, _, rfl, _, _, rfl, rfl, by omega, _, rfl, _, rfl, _, rfl, first, rfl, by omega, fun z1 a1' _ a3 _ => ?_⟩
   refine ⟨_, rfl, _, _, rfl, rfl, by omega, _, rfl, _, rfl, _, _, rfl, rfl, _, rfl, first, rfl, by omega, fun z2 b1 _ b3 _ => ?_⟩
   have la : (z1 ++ letter).length = z1.length + letter.length := by show (z1.cps ++ letter.cps).size = _; rw [Array.size_append]; rfl
   refine ⟨_, _, rfl, rfl, by omega, _, rfl, (by show 4 ≤ sizeLine; decide), fun wl hwl => ?_⟩
   have s9 := zae hwl (.lst [V.str (letter ++ first), V.str (first ++ letter), V.str (z1 ++ letter ++ z2), V.str letter])
   have e9 : (upd H8 wl (.lst [V.str (letter ++ first), V.str (first ++ letter), V.str (z1 ++ letter ++ z2), V.str letter])) wl = some (.lst [V.str (letter ++ first), V.str (first ++ letter), V.str (z1 ++ letter ++ z2), V.str letter]) := zab
   have e8 := s9 _ _ e8
   have B9 := B8.same s9
   have S49 := S48.trans s9.sameB
   generalize upd H8 wl (.lst [V.str (letter ++ first), V.str (first ++ letter), V.str (z1 ++ letter ++ z2), V.str letter]) = H9 at *
   have mem2 : ∀ (x y : Str) (c : Nat), c ∈ (x ++ y).cps.toList → c ∈ x.cps.toList ∨ c ∈ y.cps.toList := fun x y c hc => by
    have : c ∈ (x.cps ++ y.cps).toList := hc
    rw [Array.toList_append] at this
    exact List.mem_append.mp this
   have len2 : ∀ x y : Str, (x ++ y).length = x.length + y.length := fun x y => by show (x.cps ++ y.cps).size = _; rw [Array.size_append]; rfl
   obtain ⟨W, hW, w1, w100, wl'⟩ : ∃ W : Str, atI [V.str (letter ++ first), V.str (first ++ letter), V.str (z1 ++ letter ++ z2), V.str letter] pick = some (.str W) ∧ 1 ≤ W.length ∧ W.length ≤ 100 ∧ ∀ c ∈ W.cps.toList, zbr c = true := by
    have : pick = 0 ∨ pick = 1 ∨ pick = 2 ∨ pick = 3 := by omega
    rcases this with rfl | rfl | rfl | rfl
    · refine ⟨_, rfl, by rw [len2]; omega, by rw [len2]; omega, fun c hc => ?_⟩
      rcases mem2 _ _ c hc with z | z
      · exact okl.all c z
      · exact okf.all c z
    · refine ⟨_, rfl, by rw [len2]; omega, by rw [len2]; omega, fun c hc => ?_⟩
      rcases mem2 _ _ c hc with z | z
      · exact okf.all c z
      · exact okl.all c z
    · refine ⟨_, rfl, by rw [len2, len2]; omega, by rw [len2, len2]; omega, fun c hc => ?_⟩
      rcases mem2 _ _ c hc with z | z
      · rcases mem2 _ _ c z with z | z
        · exact okf.all c (a3 c z)
        · exact okl.all c z
      · exact okf.all c (b3 c z)
    · exact ⟨_, rfl, g1, by omega, okl.all⟩
   refine ⟨_, rfl, wl, _, _, _, rfl, rfl, SqL.of e9, hW, _, rfl, W, rfl, by omega, fun word v1 v2 v3 v4 => ?_⟩
   have okw : FieldOk word := ⟨v4 8 rfl rfl (by decide) w1, by have := v2 8 rfl (by decide); omega, fun c hc => wl' c (v3 c hc)⟩
   refine zby ?_
   dsimp only
   refine zbE (fun σ' H' => ∃ word : Str, σ' = [some (.ref b), some (.int many), some (.str "abcdefghijklmnopqrstuvwxyz"), some (.ref r), some (.int (0 + (i : Int))), some (.int pick), some (.str first), some (.str letter), some (.int at'), some (.str word)] ∧ FieldOk word ∧ SameB b g H H' ∧ Well H' b g l (n + 13 + 20 * i + 17) ∧ H' r = some (.lst (ts.map V.str))) (fun Z hZ => ?_) ?_
   · refine ⟨_, rfl, rfl, _, rfl, ite2 (fun _ => ?_) (fun _ => ?_)⟩
     · exact ⟨_, rfl, b, g, l, _, 8, rfl, B9, by omega, by decide, by decide, fun x H10 ok10 B10 S10 => hZ _ _ ⟨x, rfl, ok10, S49.trans S10, B10.mono (by omega), S10 _ _ e8 rb rg⟩⟩
     · exact hZ _ _ ⟨word, rfl, okw, S49, B9.mono (by omega), e8⟩
   rintro σ' H10 ⟨word', rfl, okw', S10, B10, e10⟩
   have fl : (ts.map V.str).all ze0 = true := by
    rw [List.all_map]
    exact List.all_eq_true.mpr fun x _ => rfl
   refine ⟨_, rfl, _, rfl, r, _, rfl, .inl (SqL.of e10), rfl, fl, _, rfl, ?_⟩
   have inE : inV (.str word') (ts.map V.str) = decide (word' ∈ ts) := by
    unfold inV
    rw [List.any_map, Bool.eq_iff_iff, List.any_eq_true, decide_eq_true_iff]
    constructor
    · rintro ⟨x, hx, e⟩
      have : x = word' := by simpa [eqV] using e
      exact this ▸ hx
    · exact fun h => ⟨word', h, by simp [eqV]⟩
   rw [inE]
   by_cases hm : word' ∈ ts
   · rw [decide_eq_true hm]
     exact iteF ⟨⟨_, _, _, _, _, _, rfl⟩, S10, B10.mono (by omega), ts, e10, nd, l1, by omega, ok⟩
   · rw [decide_eq_false hm]
     refine iteT ⟨_, rfl, .inl ⟨rfl, _, SqL.of e10⟩, _, rfl, r, _, _, rfl, rfl, e10, (by rw [List.length_map]; exact zax (by omega)), ?_⟩
     refine ⟨⟨_, _, _, _, _, _, rfl⟩, S10.off nr, (B10.off rb rg rl).mono (by omega), ts ++ [word'], by rw [zab, List.map_append]; rfl, ?_, by rw [List.length_append]; omega, by rw [List.length_append]; simp; omega, fun t ht => ?_⟩
     · rw [List.nodup_append]
       exact ⟨nd, by simp, fun a ha b hb => by rw [List.mem_singleton.mp hb]; exact fun z => hm (z ▸ ha)⟩
     · rcases List.mem_append.mp ht with z | z
       · exact ok t z
       · rw [List.mem_singleton.mp z]; exact okw'
 · rintro σ H4 ⟨⟨y4, y5, y6, y7, y8, y9, rfl⟩, S4, B4, ts, e4, nd, l1, l2, ok⟩
   refine ⟨_, rfl, r, ts, rfl, SqL.of e4, by omega, fun z ms mp mso hz => ?_⟩
   have s5 := zae hz (.lst (ms.map V.str))
   exact q z ms _ (B4.back S4 z hz) zab (zfl mso (mp.nodup_iff.mpr nd)) (fun f hf => ok f (mp.mem_iff.mp hf)) (by rw [mp.length_eq]; exact l1) (by rw [mp.length_eq]; omega) ((B4.same s5).mono (by omega)) (S4.trans s5.sameB)
theorem zgF (F : Fun K "_law_base" "_law_base" zcy f fd) (G_law_take : Γ22 P w K mg base) : FnOk P w K mg base CX0 2 f fd ["well"] (zik) := by
 refine F.ok sc_law_base (fun vs H Q E h => ?_) (fun cdv A outer s H vs Q E hr h => ?_)
 · obtain ⟨b, g, l, n, rfl, Bg, hn, q⟩ := h
   rfl
 obtain ⟨b, g, l, n, rfl, Bg, hn, q⟩ := h
 refine ⟨_, (zad (zao (i := 1) sc_law_base.nd rfl (Or.inl rfl) (zay G_law_take (hr.mono (by decide)) rfl (zaa (pv 0) (zaa zaf zac))))
  (zad (zao (i := 2) sc_law_base.nd rfl (Or.inl rfl) (zar zdu zaf (zar zc2 zaf (zay G_law_take (hr.mono (by decide)) rfl (zaa (pv 0) (zaa zaf zac))))))
  (zad (zaK (zav zdU (pv 1) zaf (zaA _)) (zah (zap zaf)) zas)
  (zad (zao (i := 3) sc_law_base.nd rfl (Or.inl rfl) (zay G_law_take (hr.mono (by decide)) rfl (zaa (pv 0) (zaa zaf zac))))
  (zad (zaK (zav zdU (pv 1) zaf (zaA _)) (zah (zao (i := 3) sc_law_base.nd rfl (Or.inl rfl) (zar zaL (zar zc2 (zar zaL (zar zc2 (pv 3) zaf) (zay G_law_take (hr.mono (by decide)) rfl (zaa (pv 0) (zaa zaf zac)))) zaf) (zay G_law_take (hr.mono (by decide)) rfl (zaa (pv 0) (zaa zaf zac)))))) zas)
  (zah (zap (zar zc2 (pv 2) (zar zc3 (pv 3) (zar zdu (zar zbN zaf zaf) zaf)))))))))), ?_⟩
 have e15 : (10 : Int) ^ (15 : Int).toNat = 1000000000000000 := by decide
 refine ⟨_, rfl, b, g, l, n, 3, rfl, Bg, by omega, by decide, by decide, fun pick H1 p0 p1 B1 S1 => ?_⟩
 refine ⟨_, rfl, b, g, l, _, 2, rfl, B1, by omega, by decide, by decide, fun c H2 c0 c1 B2 S2 => ?_⟩
 have S02 := S1.trans S2
 refine ⟨_, _, rfl, rfl, .inl ⟨by decide, by decide⟩, _, _, rfl, rfl, ?_⟩
 refine ⟨_, rfl, rfl, _, rfl, ite2 (fun _ => q _ _ (by decide) (by decide) (B2.mono (by omega)) S02) (fun _ => ?_)⟩
 refine ⟨_, rfl, b, g, l, _, 100000, rfl, B2, by omega, by decide, by decide, fun m H3 m0 m1 B3 S3 => ?_⟩
 have S03 := S02.trans S3
 refine zby ?_
 dsimp only
 refine zbE (fun σ' H' => ∃ m : Int, σ' = [some (.ref b), some (.int pick), some (.int (1 - 2 * c)), some (.int m)] ∧ 0 ≤ m ∧ SameB b g H H' ∧ Well H' b g l (n + 5)) (fun Z hZ => ?_) ?_
 · refine ⟨_, rfl, rfl, _, rfl, ite2 (fun _ => ?_) (fun _ => hZ _ _ ⟨m, rfl, m0, S03, B3.mono (by omega)⟩)⟩
   refine ⟨_, rfl, _, _, rfl, rfl, .inl ⟨by omega, by omega⟩, _, rfl, b, g, l, _, 100000, rfl, B3, by omega, by decide, by decide, fun m2 H4 m20 m21 B4 S4 => ?_⟩
   refine ⟨_, _, rfl, rfl, _, _, rfl, rfl, .inl ⟨by omega, by omega⟩, _, rfl, b, g, l, _, 100000, rfl, B4, by omega, by decide, by decide, fun m3 H5 m30 m31 B5 S5 => ?_⟩
   exact ⟨_, _, rfl, rfl, hZ _ _ ⟨_, rfl, by omega, S03.trans (S4.trans S5), B5.mono (by omega)⟩⟩
 rintro σ' H4 ⟨m, rfl, m0, S4, B4⟩
 refine ⟨_, rfl, _, rfl, _, _, rfl, rfl, pw10 (by decide) (by decide), _, _, rfl, rfl, _, _, rfl, rfl, (by show (0 : Int) < 10 ^ (15 : Int).toNat - 100; decide), ?_⟩
 dsimp only
 rw [e15]
 have y0 := Int.emod_nonneg m (show (1000000000000000 - 100 : Int) ≠ 0 by decide)
 have y1 := Int.emod_lt_of_pos m (show (0 : Int) < 1000000000000000 - 100 by decide)
 generalize m % (1000000000000000 - 100) = y at *
 have hc : c = 0 ∨ c = 1 := by omega
 refine ⟨_, _, rfl, rfl, .inl ⟨by omega, by omega⟩, q _ _ ?_ ?_ B4 S4⟩
 all_goals
  rcases hc with rfl | rfl
  all_goals omega
theorem zgD (F : Fun K "_law_grid" "_law_grid" zcx f fd) (G_law_take : Γ22 P w K mg base) (G_law_base : Γ25 P w K mg base) : FnOk P w K mg base CX0 3 f fd ["well"] (zii) := by
 refine F.ok sc_law_grid (fun vs H Q E h => ?_) (fun cdv A outer s H vs Q E hr h => ?_)
 · obtain ⟨b, g, l, n, rfl, Bg, hn, q⟩ := h
   rfl
 obtain ⟨b, g, l, n, rfl, Bg, hn, q⟩ := h
 refine ⟨_, (zad (zao (i := 1) sc_law_grid.nd rfl (Or.inl rfl) (zay G_law_take (hr.mono (by decide)) rfl (zaa (pv 0) (zaa zaf zac))))
  (zad (zao (i := 2) sc_law_grid.nd rfl (Or.inl rfl) zaf)
  (zad (zaK (zav zdU (pv 1) zaf (zaA _)) (zah (zao (i := 2) sc_law_grid.nd rfl (Or.inl rfl) (zar zaL zaf (zay G_law_take (hr.mono (by decide)) rfl (zaa (pv 0) (zaa zaf zac)))))) zas)
  (zad (zaK (zav zdU (pv 1) zaf (zaA _)) (zah (zao (i := 2) sc_law_grid.nd rfl (Or.inl rfl) (zar zaL zaf (zar zc2 (zay G_law_take (hr.mono (by decide)) rfl (zaa (pv 0) (zaa zaf zac))) (zay G_law_take (hr.mono (by decide)) rfl (zaa (pv 0) (zaa zaf zac))))))) zas)
  (zah (zap (zaJ (zaa (zai (zjr rfl) rfl B.max_ zku (zaa (zar zdu (zar zbN zaf zaf) (zar zbN zaf zaf)) (zaa (zai (zjp rfl) rfl B.min_ zkt (zaa (zar zdu (zar zbN zaf zaf) (zar zbN zaf zaf)) (zaa (zay G_law_base (hr.mono (by decide)) rfl (zaa (pv 0) zac)) zac))) zac))) (zaa (pv 2) zac))))))))), ?_⟩
 have e15 : (10 : Int) ^ (15 : Int).toNat = 1000000000000000 := by decide
 have e13 : (10 : Int) ^ (13 : Int).toNat = 10000000000000 := by decide
 refine ⟨_, rfl, b, g, l, n, 4, rfl, Bg, by omega, by decide, by decide, fun pick H1 p0 p1 B1 S1 => ?_⟩
 refine zby ?_
 dsimp only
 refine zjF ?_
 refine zbE (fun σ' H' => ∃ m : Int, σ' = [some (.ref b), some (.int pick), some (.int m)] ∧ 1 ≤ m ∧ m ≤ 10 ^ 10 ∧ SameB b g H H' ∧ Well H' b g l (n + 2)) (fun Z hZ => ?_) ?_
 · refine ⟨_, rfl, rfl, _, rfl, ite2 (fun _ => ?_) (fun _ => hZ _ _ ⟨1, rfl, by decide, by decide, S1, B1.mono (by omega)⟩)⟩
   exact ⟨_, rfl, b, g, l, _, 1000, rfl, B1, by omega, by decide, by decide, fun m2 H4 m20 m21 B4 S4 => ⟨_, _, rfl, rfl, hZ _ _ ⟨_, rfl, by omega, by omega, S1.trans S4, B4.mono (by omega)⟩⟩⟩
 rintro σ' H2 ⟨m, rfl, m0, m1, S2, B2⟩
 refine zbE (fun σ' H' => ∃ m : Int, σ' = [some (.ref b), some (.int pick), some (.int m)] ∧ 1 ≤ m ∧ m ≤ 10 ^ 10 ∧ SameB b g H H' ∧ Well H' b g l (n + 4)) (fun Z hZ => ?_) ?_
 · refine ⟨_, rfl, rfl, _, rfl, ite2 (fun _ => ?_) (fun _ => hZ _ _ ⟨m, rfl, m0, m1, S2, B2.mono (by omega)⟩)⟩
   refine ⟨_, rfl, b, g, l, _, 100000, rfl, B2, by omega, by decide, by decide, fun m2 H4 m20 m21 B4 S4 => ?_⟩
   refine ⟨_, rfl, b, g, l, _, 100000, rfl, B4, by omega, by decide, by decide, fun m3 H5 m30 m31 B5 S5 => ?_⟩
   have x1 : m2 * m3 ≤ 99999 * 99999 := Int.mul_le_mul (by omega) (by omega) m30 (by decide)
   have x0 : 0 ≤ m2 * m3 := Int.mul_nonneg m20 m30
   exact ⟨_, _, rfl, rfl, .inl ⟨by omega, by omega⟩, _, _, rfl, rfl, hZ _ _ ⟨_, rfl, by show 1 ≤ 1 + m2 * m3; omega, by show 1 + m2 * m3 ≤ _; omega, S2.trans (S4.trans S5), B5.mono (by omega)⟩⟩
 rintro σ' H3 ⟨m, rfl, m0, m1, S3, B3⟩
 refine ⟨_, _, rfl, rfl, pw10 (by decide) (by decide), _, _, rfl, rfl, pw10 (by decide) (by decide), _, _, rfl, rfl, _, _, rfl, rfl, pw10 (by decide) (by decide), _, _, rfl, rfl, pw10 (by decide) (by decide), _, _, rfl, rfl, _, rfl, b, g, l, _, rfl, B3, by omega, fun x H4 x0 x1 B4 S4 => ?_⟩
 dsimp only
 rw [e15, e13]
 refine ⟨_, _, rfl, _, _, rfl, _, rfl, zq2, fun t ht => ?_⟩
 have s5 := zae ht (.tup [V.int (if (if x < 1000000000000000 - 10000000000000 then x else 1000000000000000 - 10000000000000) > 10000000000000 - 1000000000000000 then (if x < 1000000000000000 - 10000000000000 then x else 1000000000000000 - 10000000000000) else 10000000000000 - 1000000000000000), V.int m])
 refine q t _ m _ zab ?_ ?_ m0 m1 ((B4.same s5).mono (by omega)) ((S3.trans S4).trans s5.sameB)
 · split <;> split <;> omega
 · split <;> split <;> omega
theorem zgB (F : Fun K "_law_span" "_law_span" zcw f fd) (G_law_take : Γ22 P w K mg base) : FnOk P w K mg base CX0 2 f fd ["well", "grid", "wide"] (zgi) := by
 refine F.ok sc_law_span (fun vs H Q E h => ?_) (fun cdv A outer s H vs Q E hr h => ?_)
 · obtain ⟨b, g, l, t, n, lo, sz, wide, rfl, Bg, hn, et, s1, s2, w1, w2, q⟩ := h
   rfl
 obtain ⟨b, g, l, t, n, lo, sz, wide, rfl, Bg, hn, et, s1, s2, w1, w2, q⟩ := h
 refine ⟨_, (zad (zao (i := 3) sc_law_span.nd rfl (Or.inl rfl) (zay G_law_take (hr.mono (by decide)) rfl (zaa (pv 0) (zaa zaf zac))))
  (zad (zao (i := 4) sc_law_span.nd rfl (Or.inl rfl) (zar zaL (zaG za9 (pv 1) zaf (fun _ _ => rfl)) (zar zc2 (zaG za9 (pv 1) zaf (fun _ _ => rfl)) (zay G_law_take (hr.mono (by decide)) rfl (zaa (pv 0) (zaa (pv 2) zac))))))
  (zad (zao (i := 5) sc_law_span.nd rfl (Or.inl rfl) (zar zdu (zar zaL (pv 4) (zar zc2 (zaG za9 (pv 1) zaf (fun _ _ => rfl)) (zar zaL zaf (zay G_law_take (hr.mono (by decide)) rfl (zaa (pv 0) (zaa (pv 2) zac)))))) zaf))
  (zad (zaK (zav zdU (pv 3) zaf (zaA _)) (zah (zap (zaJ (zaa zcm (zaa zcm zac))))) zas)
  (zad (zaK (zav zdU (pv 3) zaf (zaA _)) (zah (zap (zaJ (zaa zcm (zaa (pv 5) zac))))) zas)
  (zah (zap (zdF (zav zdU (pv 3) zaf (zaA _)) (zaJ (zaa (pv 4) (zaa zcm zac))) (zaJ (zaa (pv 4) (zaa (pv 5) zac))))))))))), ?_⟩
 refine ⟨_, rfl, b, g, l, n, 8, rfl, Bg, by omega, by decide, by decide, fun pick H1 p0 p1 B1 S1 => ?_⟩
 have e1 := Bg.tup S1 et
 refine ⟨_, rfl, t, _, 0, _, rfl, rfl, SqT.of e1, rfl, _, rfl, t, _, 1, _, rfl, rfl, SqT.of e1, rfl, _, rfl, _, rfl, b, g, l, _, wide, rfl, B1, by omega, by omega, zeY (by omega), fun x H2 x0 x1 B2 S2 => ?_⟩
 have e2 := B1.tup S2 e1
 refine ⟨_, _, rfl, rfl, .inl ⟨by omega, by omega⟩, _, _, rfl, rfl, ?_⟩
 refine ⟨_, rfl, _, rfl, t, _, 1, _, rfl, rfl, SqT.of e2, rfl, _, rfl, _, rfl, b, g, l, _, wide, rfl, B2, by omega, by omega, zeY (by omega), fun y H3 y0 y1 B3 S3 => ?_⟩
 have S03 := S1.trans (S2.trans S3)
 refine ⟨_, _, rfl, rfl, _, _, rfl, rfl, .inl ⟨by omega, by omega⟩, _, _, rfl, rfl, _, _, rfl, rfl, ?_⟩
 have hp : 1 ≤ sz * (1 + y) := by
  have : 1 * 1 ≤ sz * (1 + y) := Int.mul_le_mul s1 (by omega) (by decide) (by omega)
  omega
 dsimp only
 generalize sz * (1 + y) = d at *
 generalize lo + sz * x = L at *
 have fin : ∀ (a b' : Option Int), leO a b' = true → ∀ r, H3 r = none → Q (.ref r) (upd H3 r (.tup [eV a, eV b'])) := fun a b' h r hr => q r a b' _ zab h ((B3.same (zae hr _)).mono (by omega)) (S03.trans (zae hr _).sameB)
 refine ⟨_, rfl, rfl, _, rfl, ite2 (fun _ => ⟨zq2, fin none none rfl⟩) (fun _ => ?_)⟩
 refine ⟨_, rfl, rfl, _, rfl, ite2 (fun _ => ⟨_, rfl, zq2, fin none (some (L + d - 1)) rfl⟩) (fun _ => ?_)⟩
 refine ⟨_, rfl, rfl, _, rfl, ite2 (fun _ => ⟨_, rfl, zq2, fin (some L) none rfl⟩) (fun _ => ⟨_, rfl, _, rfl, zq2, fin (some L) (some (L + d - 1)) (decide_eq_true (by omega))⟩)⟩
theorem zgy (F : Fun K "_law_wish" "_law_wish" zcu f fd) (G_law_take : Γ22 P w K mg base) (G_law_span : Γ27 P w K mg base) : FnOk P w K mg base CX0 3 f fd ["well", "names", "grid", "wide"] (zgg) := by
 refine F.ok sc_law_wish (fun vs H Q E h => ?_) (fun cdv A outer s H vs Q E hr h => ?_)
 · obtain ⟨b, g, l, a, t, n, lo, sz, wide, fs, rfl, Bg, hn, FA, et, s1, s2, w1, w2, q⟩ := h
   rfl
 obtain ⟨b, g, l, a, t, n, lo, sz, wide, fs, rfl, Bg, hn, FA, et, s1, s2, w1, w2, q⟩ := h
 refine ⟨_, (zad (zao (i := 4) sc_law_wish.nd rfl (Or.inl rfl) (zaY zac))
  (zad (zce PassesOwn.never rfl (zaT (pv 1)) (zaj (i := 5) sc_law_wish.nd rfl (Or.inl rfl)) (zah (zaK (zav zgx (zay G_law_take (hr.mono (by decide)) rfl (zaa (pv 0) (zaa zaf zac))) zaf (zaA _)) (zad (zcX (zay G_law_span (hr.mono (by decide)) rfl (zaa (pv 0) (zaa (pv 2) (zaa (pv 3) zac)))) (zcf rfl (zam (zaj (i := 6) sc_law_wish.nd rfl (Or.inl rfl)) (zam (zaj (i := 7) sc_law_wish.nd rfl (Or.inl rfl)) za1))))
  (zah (zcl (zhK PySem.F.plainAttrs_list PySem.F.slot_list_append PySem.F.type_list_append zbU (pv 4) (zaa (zaJ (zaa (pv 5) (zaa (pv 6) (zaa (pv 7) zac)))) zac))))) zas)))
  (zah (zap (zbT zcc rfl B.tuple_ zbi (zaa (pv 4) zac)))))), ?_⟩
 refine ⟨sz0, fun r hr' => ?_⟩
 obtain ⟨rb, rg, rl⟩ := Bg.free hr'
 have s0 := zae hr' (.lst [])
 have FA0 := FA.sameB s0.sameB
 have rf : r ≠ a := fun e => by rw [e, FA.at'] at hr'; cases hr'
 refine ⟨_, rfl, a, rfl, ⟨_, SqL.of FA0.at'⟩, zcD (K := K) (a := a) (xs := fs.map V.str) (fun i σ H' => (∃ y5 y6 y7, σ = [some (.ref b), some (.ref a), some (.ref t), some (.int wide), some (.ref r), y5, y6, y7]) ∧ SameB b g H H' ∧ Well H' b g l (n + 4 * i) ∧ NamesAt H' b g a fs ∧ H' t = some (.tup [.int lo, .int sz]) ∧
  ∃ qs : List (Addr × WP), H' r = some (.lst (qs.map fun q => V.ref q.1)) ∧ (∀ q ∈ qs, H' q.1 = some (.tup [.str q.2.1, eV q.2.2.1, eV q.2.2.2]) ∧ leO q.2.2.1 q.2.2.2 = true) ∧ (qs.map (·.2.1)).Sublist (fs.take i)) ?_ ?_ ?_ ?_⟩
 · exact ⟨⟨none, none, none, rfl⟩, s0.sameB, (Bg.same s0).mono (by omega), FA0, s0 _ _ et, [], zab, fun q hq => by simp at hq, by simp⟩
 · rintro i σ H' _ ⟨_, _, _, F1, _⟩
   exact SqL.of F1.at'
 · rintro i x σ H1 hx ⟨⟨y5, y6, y7, rfl⟩, S1, B1, F1, t1, qs, e1, a1, u1⟩
   rw [List.getElem?_map] at hx
   cases ef : fs[i]? with
   | none => rw [ef] at hx; cases hx
   | some f' =>
    rw [ef] at hx
    obtain rfl : V.str f' = x := Option.some.inj hx
    have li : i < 6 := by have := (List.getElem?_eq_some_iff.mp ef).1; have := FA.len; omega
    refine ⟨_, rfl, b, g, l, _, 4, rfl, B1, by omega, by decide, by decide, fun c H2 c0 c1 B2 S2 => ?_⟩
    have e2 := S2 _ _ e1 rb rg
    have F2 := F1.sameB S2
    have t2 := B1.tup S2 t1
    have a2 : ∀ q ∈ qs, H2 q.1 = some (.tup [.str q.2.1, eV q.2.2.1, eV q.2.2.2]) ∧ leO q.2.2.1 q.2.2.2 = true := fun q hq => ⟨B1.tup S2 (a1 q hq).1, (a1 q hq).2⟩
    have u2 : (qs.map (·.2.1)).Sublist (fs.take (i + 1)) := u1.trans (List.take_sublist_take_left (by omega))
    refine ⟨_, _, rfl, rfl, _, rfl, ite2 (fun _ => ?_) (fun _ => ?_)⟩
    · refine ⟨_, rfl, _, rfl, _, rfl, b, g, l, t, _, lo, sz, wide, rfl, B2, by omega, t2, s1, s2, w1, w2, fun v lo' hi' H3 sp le3 B3 S3 => ?_⟩
      have e3 := S3 _ _ e2 rb rg
      have F3 := F2.sameB S3
      have t3 := B2.tup S3 t2
      have S03 := S1.trans (S2.trans S3)
      have a3 : ∀ q ∈ qs, H3 q.1 = some (.tup [.str q.2.1, eV q.2.2.1, eV q.2.2.2]) ∧ leO q.2.2.1 q.2.2.2 = true := fun q hq => ⟨B2.tup S3 (a2 q hq).1, (a2 q hq).2⟩
      refine ⟨v, _, rfl, SqT.of sp, rfl, _, _, rfl, _, _, rfl, rfl, ?_⟩
      refine ⟨_, rfl, .inl ⟨rfl, _, SqL.of e3⟩, _, rfl, _, rfl, _, rfl, zq3, fun t' ht => ?_⟩
      have st := zae ht (.tup [V.str f', eV lo', eV hi'])
      have e4 := st _ _ e3
      refine ⟨r, _, _, rfl, rfl, e4, (by rw [List.length_map]; have := u1.length_le; simp at this; exact zax (by omega)), ?_⟩
      have tl := zb0 (o := .lst (qs.map (fun q => V.ref q.1) ++ [V.ref t'])) e4
      have nr : H r = none := hr'
      refine ⟨⟨_, _, _, rfl⟩, (S03.trans st.sameB).off nr, ((B3.same st).off rb rg rl).mono (by omega), ?_, tl _ _ (st _ _ t3), qs ++ [(t', f', lo', hi')], ?_, ?_, ?_⟩
      · have F4 := F3.sameB st.sameB
        exact ⟨by rw [zan rf.symm]; exact F4.at', F4.nb, F4.ng, F4.len, F4.ok, F4.asc⟩
      · rw [zab, List.map_append]; rfl
      · intro q hq
        rcases List.mem_append.mp hq with z | z
        · exact ⟨tl _ _ (st _ _ (a3 q z).1), (a3 q z).2⟩
        · rw [List.mem_singleton.mp z]
          exact ⟨tl _ _ zab, le3⟩
      · rw [List.map_append, zaw ef]
        exact u1.append (List.Sublist.refl _)
    · exact ⟨⟨_, _, _, rfl⟩, S1.trans S2, B2.mono (by omega), F2, t2, qs, e2, a2, u2⟩
 · rintro σ H1 ⟨⟨y5, y6, y7, rfl⟩, S1, B1, F1, t1, qs, e1, a1, u1⟩
   rw [show fs.take (fs.map V.str).length = fs from List.take_of_length_le (by simp)] at u1
   have ll : qs.length ≤ 6 := by have h1 := u1.length_le; have h2 := FA.len; rw [List.length_map] at h1; omega
   refine ⟨_, rfl, r, _, rfl, .inl ⟨SqL.of e1, fun t ht => ?_⟩⟩
   have st := zae ht (.tup (qs.map fun q => V.ref q.1))
   have sub : ∀ q ∈ qs, q.2.1 ∈ fs := fun q hq => u1.subset (List.mem_map_of_mem (f := fun (x : Addr × WP) => x.2.1) hq)
   refine q t (qs.map (·.2)) _ ⟨qs, rfl, zab, fun q hq => st _ _ (a1 q hq).1⟩ ⟨by rw [List.length_map]; omega, fun p hp => ?_, ?_⟩ (fun p hp => ?_) (by rw [List.length_map]; exact ll) ((B1.same st).mono (by rw [List.length_map]; have := FA.len; omega)) (S1.trans st.sameB)
   · obtain ⟨q', hq', rfl⟩ := List.mem_map.mp hp
     exact ⟨FA.ok _ (sub q' hq'), (a1 q' hq').2⟩
   · rw [List.map_map]
     exact FA.asc.sublist u1
   · obtain ⟨q', hq', rfl⟩ := List.mem_map.mp hp
     exact sub q' hq'
theorem zeR (F : Fun K "_law_wishes" "_law_wishes" zbF f fd) (G_law_take : Γ22 P w K mg base) (G_law_wish : Γ28 P w K mg base) : FnOk P w K mg base CX0 4 f fd ["well", "names", "grid", "wide", "many"] (zdL) := by
 refine F.ok sc_law_wishes (fun vs H Q E h => ?_) (fun cdv A outer s H vs Q E hr h => ?_)
 · obtain ⟨b, g, l, a, t, n, lo, sz, wide, many, fs, rfl, Bg, hn, FA, et, s1, s2, w1, w2, m0, m1, q⟩ := h
   rfl
 obtain ⟨b, g, l, a, t, n, lo, sz, wide, many, fs, rfl, Bg, hn, FA, et, s1, s2, w1, w2, m0, m1, q⟩ := h
 refine ⟨_, (zad (zao (i := 5) sc_law_wishes.nd rfl (Or.inl rfl) (zaY zac))
  (zad (zce PassesOwn.never rfl (zcZ rfl B.range_ (zaa (pv 4) zac)) (zaj (i := 6) sc_law_wishes.nd rfl (Or.inl rfl)) (zad (zao (i := 7) sc_law_wishes.nd rfl (Or.inl rfl) (zay G_law_take (hr.mono (by decide)) rfl (zaa (pv 0) (zaa zaf zac))))
  (zad (zao (i := 8) sc_law_wishes.nd rfl (Or.inl rfl) (zay G_law_wish (hr.mono (by decide)) rfl (zaa (pv 0) (zaa (pv 1) (zaa (pv 2) (zaa (pv 3) zac))))))
  (zad (zaK (PW.pt (zfu (zav (zkk (zca hr)) (pv 5) (zaY zac) (zaA _)) (zeK (zav zjQ (pv 7) zaf (zaA _))))) (zad (zao (i := 9) sc_law_wishes.nd rfl (Or.inl rfl) (zaG zaI (pv 5) (zay G_law_take (hr.mono (by decide)) rfl (zaa (pv 0) (zaa (zai zau rfl B.len_ zba (zaa (pv 5) zac)) zac))) (fun _ _ => rfl)))
  (zad (zao (i := 10) sc_law_wishes.nd rfl (Or.inl rfl) (zay G_law_take (hr.mono (by decide)) rfl (zaa (pv 0) (zaa (zar zaL (zai zau rfl B.len_ zba (zaa (pv 9) zac)) zaf) zac))))
  (zah (zao (i := 8) sc_law_wishes.nd rfl (Or.inl rfl) (zdF (zav zdU (pv 7) zaf (zaA _)) (pv 9) (zar zeQ (zaZ zeC (pv 9) zbn (zbm (pv 10))) (zaZ zeC (pv 9) (zbm (zar zaL (pv 10) zaf)) zbn))))))) zas)
  (zah (zcl (zhK PySem.F.plainAttrs_list PySem.F.slot_list_append PySem.F.type_list_append zbU (pv 5) (zaa (pv 8) zac))))))))
  (zah (zap (pv 5))))), ?_⟩
 refine ⟨sz0, fun r hr' => ?_⟩
 obtain ⟨rb, rg, rl⟩ := Bg.free hr'
 have s0 := zae hr' (.lst [])
 have e0 : (upd H r (.lst [])) r = some (.lst []) := zab
 have FA0 := FA.sameB s0.sameB
 have rf : r ≠ a := fun e => by rw [e, FA.at'] at hr'; cases hr'
 have nr : H r = none := hr'
 have B0 := Bg.same s0
 have t0 := s0 _ _ et
 generalize upd H r (.lst []) = H0 at *
 obtain ⟨N, rfl, N1⟩ : ∃ N : Nat, many = (N : Int) ∧ N ≤ 400 := ⟨many.toNat, by omega, by omega⟩
 refine ⟨_, rfl, _, rfl, by omega, by omega, zfR (lo := 0) (n := N) (fun i σ H' => (∃ y6 y7 y8 y9 y10, σ = [some (.ref b), some (.ref a), some (.ref t), some (.int wide), some (.int (N : Int)), some (.ref r), y6, y7, y8, y9, y10]) ∧ SameB b g H H' ∧ Well H' b g l (n + 40 * i) ∧ NamesAt H' b g a fs ∧ H' t = some (.tup [.int lo, .int sz]) ∧
  ∃ ws : List (Addr × List WP), H' r = some (.lst (ws.map fun x => V.ref x.1)) ∧ ws.length = i ∧ ∀ x ∈ ws, WishAt H' x.1 x.2 ∧ WOk x.2 ∧ inF fs x.2 ∧ x.2.length ≤ 6) ?_ ?_ ?_⟩
 · exact ⟨⟨none, none, none, none, none, rfl⟩, s0.sameB, B0.mono (by omega), FA0, t0, [], e0, rfl, fun x hx => by simp at hx⟩
 · rintro i σ H1 hi ⟨⟨y6, y7, y8, y9, y10, rfl⟩, S1, B1, F1, t1, ws, e1, lw, g1⟩
   refine ⟨_, rfl, b, g, l, _, 6, rfl, B1, by omega, by decide, by decide, fun pick H2 p0 p1 B2 S2 => ?_⟩
   refine ⟨_, rfl, _, rfl, _, rfl, _, rfl, b, g, l, a, t, _, lo, sz, wide, fs, rfl, B2, by omega, F1.sameB S2, B1.tup S2 t1, s1, s2, w1, w2, fun wr w H3 W3 ok3 in3 len3 B3 S3 => ?_⟩
   have S13 := S2.trans S3
   have e3 := S13 _ _ e1 rb rg
   have F3 := F1.sameB S13
   have t3 := B2.tup S3 (B1.tup S2 t1)
   have g3 : ∀ x ∈ ws, WishAt H3 x.1 x.2 ∧ WOk x.2 ∧ inF fs x.2 ∧ x.2.length ≤ 6 := fun x hx => ⟨((g1 x hx).1.sameW B1 S2).sameW B2 S3, (g1 x hx).2⟩
   refine zby ?_
   dsimp only
   refine zbE (fun σ' H' => ∃ (wr : Addr) (w : List WP) (y9 y10 : Option V), σ' = [some (.ref b), some (.ref a), some (.ref t), some (.int wide), some (.int (N : Int)), some (.ref r), some (.int (0 + (i : Int))), some (.int pick), some (.ref wr), y9, y10] ∧ WishAt H' wr w ∧ WOk w ∧ inF fs w ∧ w.length ≤ 6 ∧ SameB b g H3 H' ∧ Well H' b g l (n + 40 * i + 35)) (fun Z hZ => ?_) ?_
   · refine ⟨_, rfl, sz0, fun ep hep => ?_⟩
     have s4 := zae hep (.lst [])
     have e4 := s4 _ _ e3
     have g4 : ∀ x ∈ ws, WishAt (upd H3 ep (.lst [])) x.1 x.2 ∧ WOk x.2 ∧ inF fs x.2 ∧ x.2.length ≤ 6 := fun x hx => ⟨(g3 x hx).1.same s4, (g3 x hx).2⟩
     have B4 := B3.same s4
     have W4 := W3.same s4
     have h4 : (upd H3 ep (.lst [])) ep = some (.lst []) := zab
     generalize upd H3 ep (.lst []) = H4 at *
     have nope : Z [some (.ref b), some (.ref a), some (.ref t), some (.int wide), some (.int (N : Int)), some (.ref r), some (.int (0 + (i : Int))), some (.int pick), some (.ref wr), y9, y10] H4 := hZ _ _ ⟨wr, w, y9, y10, rfl, W4, ok3, in3, len3, s4.sameB, B4.mono (by omega)⟩
     refine ⟨r, ep, _, rfl, rfl, e4, h4, _, rfl, ?_⟩
     by_cases hw : ws = []
     · subst hw
       exact iteF (iteF nope)
     · have wpos : 0 < ws.length := List.length_pos_iff.mpr hw
       have ne : (ws.map fun x => V.ref x.1).isEmpty = false := by
        cases ws with
        | nil => exact absurd rfl hw
        | cons x0 r0 => rfl
       rw [ne]
       refine iteT ⟨_, rfl, _, _, rfl, rfl, _, rfl, ite2 (fun _ => ?_) (fun _ => nope)⟩
       refine ⟨_, rfl, _, rfl, _, rfl, r, _, rfl, .inl (SqL.of e4), b, g, l, _, _, rfl, B4, by omega, by rw [List.length_map]; omega, zeY (by rw [List.length_map]; omega), fun k H5 k0 k1 B5 S5 => ?_⟩
       have e5 := S5 _ _ e4 rb rg
       rw [List.length_map] at k1
       obtain ⟨j, rfl⟩ : ∃ j : Nat, k = (j : Int) := ⟨k.toNat, by omega⟩
       obtain ⟨X1, eX⟩ : ∃ X1, ws[j]? = some X1 := ⟨ws[j]'(by omega), List.getElem?_eq_getElem (by omega)⟩
       have hX : atI (ws.map fun x => V.ref x.1) (j : Int) = some (V.ref X1.1) := zbC (by rw [List.getElem?_map, eX]; rfl)
       obtain ⟨x1, x2, x3, x4⟩ := g4 X1 (List.mem_of_getElem? eX)
       have x5 := x1.sameW B4 S5
       refine ⟨r, _, _, _, rfl, rfl, SqL.of e5, hX, ?_⟩
       obtain ⟨xs1, ex1, lx1⟩ := x5.tyN
       refine ⟨_, rfl, _, rfl, X1.1, _, rfl, .inr (SqT.of ex1), _, _, rfl, rfl, b, g, l, _, _, rfl, B5, by omega, by omega, zeY (by omega), fun at' H6 a0 a1 B6 S6 => ?_⟩
       have x6 := x5.sameW B5 S6
       have S36 := s4.sameB.trans (S5.trans S6)
       refine ⟨_, rfl, rfl, _, rfl, ite2 (fun _ => ⟨_, rfl, hZ _ _ ⟨X1.1, X1.2, _, _, rfl, x6, x2, x3, x4, S36, B6.mono (by omega)⟩⟩) (fun _ => ?_)⟩
       obtain ⟨k', rfl⟩ : ∃ k' : Nat, at' = (k' : Int) := ⟨at'.toNat, by omega⟩
       obtain ⟨ps, hps, hA, hP⟩ := x6
       have lps : ps.length ≤ 6 := by rw [← hps, List.length_map] at x4; exact x4
       refine ⟨_, rfl, _, rfl, _, rfl, X1.1, _, rfl, hA, fun p1 H12 s12 e12 => ?_⟩
       rw [zd6 rfl, ← List.map_take] at e12
       refine ⟨_, rfl, _, rfl, _, _, rfl, rfl, _, rfl, X1.1, _, rfl, s12 _ _ hA, fun p2 H13 s13 e13 => ?_⟩
       rw [zd8 (n := k' + 1) (by omega), ← List.map_drop] at e13
       refine ⟨p1, p2, _, _, rfl, rfl, s13 _ _ e12, e13, (by rw [List.length_map, List.length_take, List.length_map, List.length_drop]; exact zeA (by omega)), fun r2 H14 s14 e14 => ?_⟩
       rw [← List.map_append] at e14
       have tt := s12.trans (s13.trans s14)
       have sub : (ps.take k' ++ ps.drop (k' + 1)).Sublist ps := by
        rw [← List.eraseIdx_eq_take_drop_succ]
        exact List.eraseIdx_sublist ..
       have subw : ((ps.take k' ++ ps.drop (k' + 1)).map (·.2)).Sublist X1.2 := by rw [← hps]; exact sub.map _
       refine hZ _ _ ⟨r2, (ps.take k' ++ ps.drop (k' + 1)).map (·.2), _, _, rfl, ⟨_, rfl, e14, fun x hx => tt _ _ (hP x (sub.subset hx))⟩, ⟨Nat.le_trans subw.length_le x2.len, fun p hp => x2.ok p (subw.subset hp), x2.asc.sublist (subw.map _)⟩, fun p hp => x3 p (subw.subset hp), Nat.le_trans subw.length_le x4, S36.trans tt.sameB, (B6.same tt).mono (by omega)⟩
   rintro σ' H5 ⟨wr, w, y9, y10, rfl, W5, ok5, in5, len5, S5, B5⟩
   have e5 := S5 _ _ e3 rb rg
   have F5 := F3.sameB S5
   refine ⟨_, rfl, .inl ⟨rfl, _, SqL.of e5⟩, _, rfl, r, _, _, rfl, rfl, e5, (by rw [List.length_map]; exact zax (by omega)), ?_⟩
   have tl := zb0 (o := .lst (ws.map (fun q => V.ref q.1) ++ [V.ref wr])) e5
   refine ⟨⟨_, _, _, _, _, rfl⟩, ((S1.trans S13).trans S5).off nr, (B5.off rb rg rl).mono (by omega), ⟨by rw [zan rf.symm]; exact F5.at', F5.nb, F5.ng, F5.len, F5.ok, F5.asc⟩, tl _ _ (B3.tup S5 t3), ws ++ [(wr, w)], by rw [zab, List.map_append]; rfl, by rw [List.length_append, lw]; rfl, fun x hx => ?_⟩
   rcases List.mem_append.mp hx with z | z
   · exact ⟨((g3 x z).1.sameW B3 S5).keep tl, (g3 x z).2⟩
   · rw [List.mem_singleton.mp z]
     exact ⟨W5.keep tl, ok5, in5, len5⟩
 · rintro σ H1 ⟨⟨y6, y7, y8, y9, y10, rfl⟩, S1, B1, F1, t1, ws, e1, lw, g1⟩
   exact ⟨_, rfl, q r ws _ nr ⟨e1, fun x hx => ⟨(g1 x hx).1, (g1 x hx).2.1⟩, by omega⟩ (by omega) (fun x hx => (g1 x hx).2.2) (B1.mono (by omega)) S1⟩
theorem zfF (F : Fun K "_law_whole" "_law_whole" zb7 f fd)  : FnOk P w K mg base CX0 1 f fd ["thing"] (zde K) := by
 refine F.ok zfn (fun vs H Q E h => ?_) (fun cdv A outer s H vs Q E hr h => ?_)
 · obtain ⟨v, t, rfl, hty, q⟩ := h
   rfl
 obtain ⟨v, t, rfl, hty, q⟩ := h
 refine ⟨_, (zah (zap (zcG (zai (zaq (n := "")) rfl B.isinstance_ zak (zaa (pv 0) (zaa (zaD (v := .ty "int") rfl B.int_ zhs rfl) zac))) (zcg (zkj (zai (zaq (n := "")) rfl B.isinstance_ zak (zaa (pv 0) (zaa (zaD (v := .ty "bool") rfl B.bool_ ze9 rfl) zac)))))))), ?_⟩
 cases hty
 all_goals first
  | exact ⟨_, rfl, _, "int", "int", true, rfl, .int _, rfl, _, rfl, iteT ⟨_, rfl, _, "int", "bool", false, rfl, .int _, rfl, _, rfl, q⟩⟩
  | exact ⟨_, rfl, _, "bool", "int", true, rfl, .bl _, rfl, _, rfl, iteT ⟨_, rfl, _, "bool", "bool", true, rfl, .bl _, rfl, _, rfl, q⟩⟩
  | exact ⟨_, rfl, _, _, "int", false, rfl, (by first | exact .non | exact .str _ | exact .flt _ | (exact .lst (by assumption)) | (exact .frz (by assumption)) | (exact .tup (by assumption)) | (exact .dK (by assumption)) | (exact .dT (by assumption))), rfl, _, rfl, iteF q⟩
theorem zfG (F : Fun K "_law_wants" "_law_wants" zb8 f fd)  : FnOk P w K mg base CX0 1 f fd ["wish", "piece"] (zgh) := by
 refine F.ok sc_law_wants (fun vs H Q E h => ?_) (fun cdv A outer s H vs Q E hr h => ?_)
 · obtain ⟨a, b, w', p, rfl, hw, hp, pok, q⟩ := h
   rfl
 obtain ⟨a, b, w', p, rfl, hw, hp, pok, q⟩ := h
 refine ⟨_, (zad (zao (i := 2) sc_law_wants.nd rfl (Or.inl rfl) (zbT (zh7 rfl) rfl B.dict_ zk3 (zaa (pv 1) zac)))
  (zad (zce PassesOwn.never rfl (zcY (pv 0)) (zcf rfl (zam (zaj (i := 3) sc_law_wants.nd rfl (Or.inl rfl)) (zam (zaj (i := 4) sc_law_wants.nd rfl (Or.inl rfl)) (zam (zaj (i := 5) sc_law_wants.nd rfl (Or.inl rfl)) za1)))) (zad (zaK (zbI (ziC (zgW hr) (pv 3) (pv 2)) (by with_unfolding_all rfl)) (zah (zap zcF)) zas)
  (zah (zaK (PW.pt (zcW (PW.pt (zfu (zbI (zcn (pv 4))) (zeK (zav zjQ (zeP (zgW hr) (pv 2) (pv 3) (fun _ _ => rfl)) (pv 4) (zaA _))))) (zcd (PW.pt (zfu (zbI (zcn (pv 5))) (zeK (zav zgx (zeP (zgW hr) (pv 2) (pv 3) (fun _ _ => rfl)) (pv 5) (zaA _)))))))) (zah (zap zcF)) zas))))
  (zah (zap zcF)))), ?_⟩
 obtain ⟨ps, rfl, hA, hP⟩ := hp
 have ll : ps.length ≤ 100 := by have := pok.len; rw [List.length_map] at this; exact this
 refine ⟨_, rfl, b, zdP ps, rfl, ?_, ?_, fun d hd => ?_⟩
 · unfold zdP; rw [List.map_map]; exact hA
 · intro r hr'
   unfold zdP at hr'
   obtain ⟨P1, hm, rfl⟩ := List.mem_map.mp hr'
   exact hP P1 hm
 have s1 := zae hd (.dK ((zdP ps).foldl (fun acc p => putK acc p.2.1 p.2.2) []))
 have h1 : (upd H d (.dK ((zdP ps).foldl (fun acc p => putK acc p.2.1 p.2.2) []))) d = some (.dK ((zdP ps).foldl (fun acc p => putK acc p.2.1 p.2.2) [])) := zab
 have h3 : ∀ f : Str, valV ((zdP ps).foldl (fun acc p => putK acc p.2.1 p.2.2) []) (.inr f : Key) = (zbx (ps.map (·.2)) f).map V.int := zgY ps pok
 generalize (zdP ps).foldl (fun acc p => putK acc p.2.1 p.2.2) [] = kvs at *
 generalize upd H d (.dK kvs) = H1 at *
 obtain ⟨ws, rfl, hB, hW⟩ := hw.same s1
 refine ⟨_, rfl, a, rfl, ⟨_, SqT.of hB⟩, zgX (K := K) (a := a) (xs := ws.map fun p => V.ref p.1) (fun i σ H' => (∃ y3 y4 y5, σ = [some (.ref a), some (.ref b), some (.ref d), y3, y4, y5]) ∧ Same H1 H' ∧ zat ((ws.map (·.2)).take i) (ps.map (·.2)) = true) ⟨⟨none, none, none, rfl⟩, Same.refl _, rfl⟩ (fun i σ H' _ ⟨_, s, _⟩ => s.seqT (SqT.of hB)) ?_ ?_⟩
 · rintro i x σ H' hx ⟨⟨y2, y3, y4, rfl⟩, s, hr'⟩
   rw [List.getElem?_map] at hx
   cases e1 : ws[i]? with
   | none => rw [e1] at hx; cases hx
   | some P1 =>
    rw [e1] at hx
    obtain rfl : V.ref P1.1 = x := Option.some.inj hx
    have hm := List.mem_of_getElem? e1
    have ew : (ws.map (·.2))[i]? = some P1.2 := by rw [List.getElem?_map, e1]; rfl
    have k1 := s _ _ h1
    have kf := h3 P1.2.1
    refine ⟨P1.1, _, rfl, SqT.of (s _ _ (hW P1 hm)), rfl, _, _, rfl, _, _, rfl, _, _, rfl, rfl, ?_⟩
    have out : zci (ps.map (·.2)) P1.2 = false → zat (ws.map (·.2)) (ps.map (·.2)) = false := fun h => zhB (List.mem_map_of_mem hm) h
    refine ⟨_, rfl, _, rfl, d, _, rfl, DGet.k (k := Sum.inr P1.2.1) k1, _, rfl, ?_⟩
    cases hs : zbx (ps.map (·.2)) P1.2.1 with
    | none =>
     rw [hs] at kf
     rw [kf]
     refine iteT ?_
     have o1 := out (zdH hs)
     rw [o1] at q
     exact q _ (s1.trans s)
    | some n =>
     rw [hs] at kf
     rw [kf]
     refine iteF ?_
     have gd : DGet H' d (.str P1.2.1) (some (.int n)) := by
      have := DGet.k (k := Sum.inr P1.2.1) k1
      rw [kf] at this
      exact this
     have tp := zcJ hs
     have bad : inB P1.2.2.1 P1.2.2.2 n = false → Q (.bl false) H' := fun hb => by
      have o1 := out (tp.trans hb)
      rw [o1] at q
      exact q _ (s1.trans s)
     have good : inB P1.2.2.1 P1.2.2.2 n = true → zat ((ws.map (·.2)).take (i + 1)) (ps.map (·.2)) = true := fun hb => by
      rw [zaw ew]
      unfold zat at *
      rw [List.all_append, hr', Bool.true_and, List.all_cons, List.all_nil, tp, hb]
      rfl
     obtain ⟨pa, f', lo, hi⟩ := P1
     dsimp only at gd bad good
     have low : ∀ l, lo = some l → n < l → inB lo hi n = false := fun l e h => by
      subst e
      unfold inB
      rw [show loB (some l) n = false from decide_eq_false (by omega)]
      rfl
     have high : ∀ h', hi = some h' → h' < n → inB lo hi n = false := fun h' e h => by
      subst e
      unfold inB
      rw [show hiB (some h') n = false from decide_eq_false (by omega), Bool.and_false]
     cases lo with
     | none =>
      refine ⟨_, rfl, _, rfl, iteF (iteF ?_)⟩
      cases hi with
      | none => exact ⟨_, rfl, _, rfl, iteF (iteF ⟨⟨_, _, _, rfl⟩, s, good rfl⟩)⟩
      | some h' =>
       refine ⟨_, rfl, _, rfl, iteT ⟨_, rfl, _, rfl, d, _, rfl, gd, _, rfl, _, _, rfl, rfl, _, rfl, ite2 (fun h => ?_) (fun h => ?_)⟩⟩
       · exact bad (high h' rfl (of_decide_eq_true h))
       · refine ⟨⟨_, _, _, rfl⟩, s, good ?_⟩
         have : ¬ n > h' := fun z => h (decide_eq_true z)
         simp [inB, loB, hiB]
         omega
     | some l' =>
      refine ⟨_, rfl, _, rfl, iteT ⟨_, rfl, _, rfl, d, _, rfl, gd, _, rfl, _, _, rfl, rfl, _, rfl, ite2 (fun h => ?_) (fun h => ?_)⟩⟩
      · exact iteT (bad (low l' rfl (of_decide_eq_true h)))
      · have hl' : ¬ n < l' := fun z => h (decide_eq_true z)
        cases hi with
        | none =>
         refine ⟨_, rfl, _, rfl, iteF (iteF ⟨⟨_, _, _, rfl⟩, s, good ?_⟩)⟩
         simp [inB, loB, hiB]
         omega
        | some h' =>
         refine ⟨_, rfl, _, rfl, iteT ⟨_, rfl, _, rfl, d, _, rfl, gd, _, rfl, _, _, rfl, rfl, _, rfl, ite2 (fun h => ?_) (fun h => ?_)⟩⟩
         · exact bad (high h' rfl (of_decide_eq_true h))
         · refine ⟨⟨_, _, _, rfl⟩, s, good ?_⟩
           have : ¬ n > h' := fun z => h (decide_eq_true z)
           simp [inB, loB, hiB]
           omega
 · rintro σ H' ⟨_, s, hr'⟩
   rw [show (ws.map (·.2)).take (ws.map fun p => V.ref p.1).length = ws.map (·.2) from List.take_of_length_le (by simp)] at hr'
   rw [hr'] at q
   exact q _ (s1.trans s)
theorem zdY (F : Fun K "_law_is_piece" "_law_is_piece" zaW f fd) (G_law_whole : Γ30 P w K mg base) : FnOk P w K mg base CX0 2 f fd ["thing"] (zih) := by
 refine F.ok sc_law_is_piece (fun vs H Q E h => ?_) (fun cdv A outer s H vs Q E hr h => ?_)
 · obtain ⟨a, p', rfl, hp, pok, q⟩ := h
   rfl
 obtain ⟨a, p', rfl, hp, pok, q⟩ := h
 refine ⟨_, (zad (zaK (zbl (zbb (zai (zaq (n := "")) rfl B.isinstance_ zak (zaa (pv 0) (zaa (zaD (v := .ty "tuple") rfl B.tuple_ zbi rfl) zac))))) (zah (zap zcF)) zas)
  (zad (zao (i := 1) sc_law_is_piece.nd rfl (Or.inl rfl) zdR)
  (zad (zce PassesOwn.never rfl (zcY (pv 0)) (zaj (i := 2) sc_law_is_piece.nd rfl (Or.inl rfl)) (zad (zaK (PW.pt (zcW (zbl (zbb (zai (zaq (n := "")) rfl B.isinstance_ zak (zaa (pv 2) (zaa (zaD (v := .ty "tuple") rfl B.tuple_ zbi rfl) zac))))) (zcW (zav zfB (zai zau rfl B.len_ zba (zaa (pv 2) zac)) zaf (zaA _)) (zcW (zbl (zbb (zai (zaq (n := "")) rfl B.isinstance_ zak (zaa (zaG za9 (pv 2) zaf (fun _ _ => rfl)) (zaa (zaD (v := .ty "str") rfl B.str_ zhr rfl) zac))))) (zcd (zav zdT (zaG za9 (pv 2) zaf (fun _ _ => rfl)) (pv 1) (zaA _))))))) (zah (zap zcF)) zas)
  (zad (zaK (PW.pt (zcW (zav zgx (zai zcp rfl B.len_ zba (zaa (zaG za9 (pv 2) zaf (fun _ _ => rfl)) zac)) zaf (zaA _)) (zcd (zav (zkk (zca hr)) (zc0 (N' := ["sign"]) (js := [none]) rfl (zbX (N := ["thing", "last", "pair"]) (outer := zag zaW) (by decide +kernel)) (zki (zaG za9 (pv 2) zaf (fun _ _ => rfl))) (fun _ _ _ _ _ => (zaj (i := 0) (show List.Nodup (["sign"] : List Str) by decide +kernel) rfl (Or.inl rfl))) (fun _ _ _ _ _ => zcb (zav zfz (pv 0) zdR (by with_unfolding_all rfl))) (fun _ _ _ _ _ => (pv 0))) (zaY zac) (zaA _))))) (zah (zap zcF)) zas)
  (zad (zaK (zbl (zbb (zay G_law_whole (hr.mono (by decide)) rfl (zaa (zaG za9 (pv 2) zaf (fun _ _ => rfl)) zac)))) (zah (zap zcF)) zas)
  (zah (zao (i := 1) sc_law_is_piece.nd rfl (Or.inl rfl) (zaG za9 (pv 2) zaf (fun _ _ => rfl))))))))
  (zah (zap zcF))))), ?_⟩
 obtain ⟨ps, rfl, hA, hP⟩ := hp
 refine ⟨_, rfl, _, "tuple", "tuple", true, rfl, .tup hA, rfl, _, rfl, iteF ?_⟩
 refine ⟨_, rfl, a, rfl, ⟨_, SqT.of hA⟩, zgX (K := K) (a := a) (xs := ps.map fun p => V.ref p.1) (fun i σ H' => (∃ (last : Str) (y2 : Option V), σ = [some (.ref a), some (.str last), y2] ∧ ∀ x, ps[i]? = some x → last.cps.toList < x.2.1.cps.toList) ∧ Same H H') ?_ (fun i σ H' _ ⟨_, z⟩ => z.seqT (SqT.of hA)) ?_ ?_⟩
 · refine ⟨⟨"", none, rfl, fun x hx => ?_⟩, Same.refl _⟩
   have o1 := (pok.ok x.2 (List.mem_map_of_mem (List.mem_of_getElem? hx))).one
   have : x.2.1.cps.toList ≠ [] := fun z => by
    have h1 : x.2.1.length = x.2.1.cps.toList.length := by rw [Array.length_toList]; rfl
    rw [z] at h1
    simp at h1
    omega
   cases e : x.2.1.cps.toList with
   | nil => exact absurd e this
   | cons c r => exact List.nil_lt_cons _ _
 · rintro i x σ H1 hx ⟨⟨last, y2, rfl, lt⟩, s1⟩
   rw [List.getElem?_map] at hx
   cases e1 : ps[i]? with
   | none => rw [e1] at hx; cases hx
   | some P1 =>
    rw [e1] at hx
    obtain rfl : V.ref P1.1 = x := Option.some.inj hx
    have hm := List.mem_of_getElem? e1
    have h1 := s1 _ _ (hP P1 hm)
    have F1 := pok.ok P1.2 (List.mem_map_of_mem hm)
    have l8 := F1.eight
    refine ⟨_, rfl, _, "tuple", "tuple", true, rfl, .tup h1, rfl, _, rfl, iteF ⟨_, rfl, P1.1, _, rfl, .inr (SqT.of h1), rfl, _, rfl, ite2 (fun h => absurd h (by simp)) (fun _ => ?_)⟩⟩
    refine ⟨_, rfl, P1.1, _, 0, _, rfl, rfl, SqT.of h1, rfl, _, "str", "str", true, rfl, .str _, rfl, _, rfl, iteF ?_⟩
    refine ⟨_, rfl, P1.1, _, 0, _, rfl, rfl, SqT.of h1, rfl, _, rfl, _, _, rfl, rfl, _, rfl, ?_⟩
    rw [decide_eq_true (lt P1 e1)]
    refine iteF ?_
    refine ⟨_, rfl, P1.1, _, 0, _, rfl, rfl, SqT.of h1, rfl, P1.2.1, rfl, zeA (by omega), _, _, rfl, rfl, _, rfl, ite2 (fun h => absurd (of_decide_eq_true h) (by omega)) (fun _ => ?_)⟩
    refine ⟨_, rfl, P1.1, _, 0, _, rfl, rfl, SqT.of h1, rfl, P1.2.1, rfl, fun p hp => ?_⟩
    have s2 := zae hp (.lst [])
    refine zko (xs := L2.signs P1.2.1) (fun i σ' ys H' => (∃ v, σ' = [v]) ∧ Same H1 H' ∧ H' p = some (.lst ys) ∧ ys = []) ⟨⟨none, rfl⟩, s2, zab, rfl⟩ ?_ ?_ ?_
    · rintro i σ' ys H' hi ⟨_, _, h1, h2⟩
      exact ⟨h1, by rw [h2]; exact zax (by simp)⟩
    · rintro i y σ' ys H' N hy ⟨⟨v, rfl⟩, s, h1, h2⟩ hN
      unfold L2.signs at hy
      rw [List.getElem?_map] at hy
      cases hc : P1.2.1.cps.toList[i]? with
      | none => rw [hc] at hy; cases hy
      | some c =>
       rw [hc] at hy
       obtain rfl : V.str ⟨#[c]⟩ = y := Option.some.inj hy
       have ok := F1.all c (List.mem_of_getElem? hc)
       refine ⟨_, rfl, _, _, rfl, rfl, _, rfl, ?_⟩
       rw [zmg ok]
       exact iteF (hN _ _ _ ⟨⟨_, rfl⟩, s, h1, h2⟩)
    · rintro σ' ys H2 ⟨_, s2', h2, rfl⟩
      refine ⟨sz0, fun ep hep => ?_⟩
      have s3 := zae hep (.lst [])
      have e3 : (upd H2 ep (.lst [])) ep = some (.lst []) := zab
      have h3 := s3 _ _ h2
      generalize upd H2 ep (.lst []) = H3 at *
      refine ⟨p, ep, _, rfl, rfl, h3, e3, _, rfl, iteF ?_⟩
      have t3 := s2'.trans s3
      have g3 := t3 _ _ h1
      refine ⟨_, rfl, P1.1, _, 1, _, rfl, rfl, SqT.of g3, rfl, _, "int", rfl, .int _, _, rfl, iteF ?_⟩
      refine ⟨_, rfl, P1.1, _, 0, _, rfl, rfl, SqT.of g3, rfl, ⟨P1.2.1, _, rfl, fun x hx => ?_⟩, s1.trans t3⟩
      have := List.pairwise_iff_getElem.mp pok.asc i (i + 1) (by simp; have := (List.getElem?_eq_some_iff.mp e1).1; omega) (by simp; have := (List.getElem?_eq_some_iff.mp hx).1; omega) (by omega)
      simp only [List.getElem_map] at this
      rw [(List.getElem?_eq_some_iff.mp e1).2, (List.getElem?_eq_some_iff.mp hx).2] at this
      exact this
 · rintro σ H1 ⟨_, s1⟩
   exact q _ s1
theorem zeS (F : Fun K "_law_points" "_law_points" za3 f fd)  : FnOk P w K mg base CX0 1 f fd ["names", "grid", "wide"] (spPoints) := by
 refine F.ok sc_law_points (fun vs H Q E h => ?_) (fun cdv A outer s H vs Q E hr h => ?_)
 · obtain ⟨a, t, fs, lo, sz, wide, rfl, ha, lf, fok, fasc, ht, z1, z2, w1, w2, q⟩ := h
   rfl
 obtain ⟨a, t, fs, lo, sz, wide, rfl, ha, lf, fok, fasc, ht, z1, z2, w1, w2, q⟩ := h
 refine ⟨_, (zad (zeM (N' := ["k", "grid"]) (js := [none, some 1]) (i := 3) sc_law_points.nd rfl (Or.inl rfl) rfl (zbX (N := ["names", "grid", "wide", "numbers", "found", "field", "longer", "piece"]) (outer := zag za3) (by decide +kernel)) (ziA rfl B.range_ (zaa (zar zdu zaf zaf) (zaa (zar zc2 zaf (pv 2)) zac))) (fun _ _ _ _ _ => (zaj (i := 0) (show List.Nodup (["k", "grid"] : List Str) by decide +kernel) rfl (Or.inl rfl))) (fun _ _ _ _ _ => zaM) (fun _ _ _ _ _ => (zar zaL (zaG (zdn K rfl) (pv 1) zaf (fun _ _ => rfl)) (zar zc2 (zaG (zdn K rfl) (pv 1) zaf (fun _ _ => rfl)) (pv 0)))))
  (zad (zao (i := 4) sc_law_points.nd rfl (Or.inl rfl) (zaY (zaa (zaJ zac) zac)))
  (zad (zce PassesOwn.never rfl (zaT (pv 0)) (zaj (i := 5) sc_law_points.nd rfl (Or.inr rfl)) (zad (zao (i := 6) sc_law_points.nd rfl (Or.inl rfl) (zbT zdw rfl B.list_ zcP (zaa (pv 4) zac)))
  (zad (zce PassesOwn.never rfl (zaT (pv 4)) (zaj (i := 7) sc_law_points.nd rfl (Or.inr rfl)) (zah (zao (i := 6) sc_law_points.nd rfl (Or.inl rfl) (zar zhi (pv 6) (zc0 (N' := ["number", "field", "piece"]) (js := [none, some 5, some 7]) rfl (zbX (N := ["names", "grid", "wide", "numbers", "found", "field", "longer", "piece"]) (outer := zag za3) (by decide +kernel)) (zaT (pv 3)) (fun _ _ _ _ _ => (zaj (i := 0) (show List.Nodup (["number", "field", "piece"] : List Str) by decide +kernel) rfl (Or.inl rfl))) (fun _ _ _ _ _ => zaM) (fun _ _ _ _ _ => (zar zeQ (pv 2) (zaJ (zaa (zaJ (zaa (pv 1) (zaa (pv 0) zac))) zac)))))))))
  (zah (zao (i := 4) sc_law_points.nd rfl (Or.inl rfl) (pv 6))))))
  (zah (zap (pv 4)))))), ?_⟩
 refine ⟨_, _, rfl, rfl, _, rfl, _, _, rfl, rfl, .inl ⟨by decide, by decide⟩, _, _, rfl, ⟨by decide, by decide, by omega, by omega⟩, fun p hp => ?_⟩
 have s0 := zae hp (.lst [])
 refine zdG (lo := 0 - 1) (n := (2 * wide - (0 - 1)).toNat) (fun i σ' ys H' => (∃ v, σ' = [v, some (.ref t)]) ∧ Same H H' ∧ H' p = some (.lst ys) ∧ ∃ ns : List Int, ys = ns.map V.int ∧ ns.length = i) ⟨⟨none, rfl⟩, s0, zab, [], rfl, rfl⟩ ?_ ?_ ?_
 · rintro i σ' ys H' hi ⟨_, _, h1, ns, rfl, h2⟩
   exact ⟨h1, by rw [List.length_map, h2]; exact zax (by omega)⟩
 · rintro i σ' ys H' N hi ⟨⟨v, rfl⟩, s, h1, ns, rfl, h2⟩ hN
   have e1 := s _ _ ht
   refine ⟨_, rfl, t, _, 0, _, rfl, rfl, SqT.of e1, rfl, _, rfl, t, _, 1, _, rfl, rfl, SqT.of e1, rfl, _, rfl, _, _, rfl, rfl, .inl ⟨by omega, by omega⟩, _, _, rfl, rfl, h1, hN _ _ _ ⟨⟨_, rfl⟩, zbL s hp, zab, ns ++ [_], by rw [List.map_append]; rfl, by rw [List.length_append, h2]; rfl⟩⟩
 rintro σ' ys H1 ⟨_, s1, h1, ns, rfl, ln⟩
 have ln' : ns.length ≤ 19 := by omega
 refine ⟨(by show 0 ≤ sizeLine; decide), fun e0 he0 => ?_⟩
 have s2 := zae he0 (.tup [])
 have e2 : (upd H1 e0 (.tup [])) e0 = some (.tup []) := zab
 have k2 := s2 _ _ h1
 generalize upd H1 e0 (.tup []) = H2 at *
 refine ⟨(by show 1 ≤ sizeLine; decide), fun f0 hf0 => ?_⟩
 have s3 := zae hf0 (.lst [V.ref e0])
 have e3 : (upd H2 f0 (.lst [V.ref e0])) f0 = some (.lst [V.ref e0]) := zab
 have e2' := s3 _ _ e2
 have k3 := s3 _ _ k2
 have S3 := s1.trans (s2.trans s3)
 generalize upd H2 f0 (.lst [V.ref e0]) = H3 at *
 have ha3 := S3 _ _ ha
 refine ⟨_, rfl, a, rfl, ⟨_, SqL.of ha3⟩, zcD (K := K) (a := a) (xs := fs.map V.str) (fun i σ H' => (∃ (f : Addr) (y5 y6 y7 : Option V) (qs : List (Addr × List PP)), σ = [some (.ref a), some (.ref t), some (.int wide), some (.ref p), some (.ref f), y5, y6, y7] ∧ H' f = some (.lst (qs.map fun q => V.ref q.1)) ∧ qs.length ≤ 20 ^ i ∧ ∀ q ∈ qs, PieceAt H' q.1 q.2 ∧ (q.2.map (·.1)).Sublist (fs.take i)) ∧ Same H3 H') ⟨⟨f0, none, none, none, [(e0, [])], rfl, e3, by simp, fun q hq => by rw [List.mem_singleton.mp hq]; exact ⟨⟨[], rfl, e2', fun x hx => by simp at hx⟩, by simp⟩⟩, Same.refl _⟩ (fun i σ H' _ ⟨_, z⟩ => SqL.of (z _ _ ha3)) ?_ ?_⟩
 · rintro i x σ H4 hx ⟨⟨f, y5, y6, y7, qs, rfl, e4, l4, g4⟩, s4⟩
   rw [List.getElem?_map] at hx
   cases ef : fs[i]? with
   | none => rw [ef] at hx; cases hx
   | some fi =>
    rw [ef] at hx
    obtain rfl : V.str fi = x := Option.some.inj hx
    have li : i < 3 := by have := (List.getElem?_eq_some_iff.mp ef).1; omega
    have p20 : (20 : Nat) ^ i ≤ 400 := by
     have : i = 0 ∨ i = 1 ∨ i = 2 := by omega
     rcases this with rfl | rfl | rfl <;> decide
    refine ⟨_, rfl, f, _, rfl, .inl (SqL.of e4), fun l0 hl0 => ?_⟩
    have s5 := zae hl0 (.lst (qs.map fun q => V.ref q.1))
    have e5 : (upd H4 l0 (.lst (qs.map fun q => V.ref q.1))) l0 = some (.lst (qs.map fun q => V.ref q.1)) := zab
    have f5 := s5 _ _ e4
    have S5 := s4.trans s5
    have g5 : ∀ q ∈ qs, PieceAt (upd H4 l0 (.lst (qs.map fun q => V.ref q.1))) q.1 q.2 ∧ (q.2.map (·.1)).Sublist (fs.take i) := fun q hq => ⟨(g4 q hq).1.same s5, (g4 q hq).2⟩
    generalize upd H4 l0 (.lst (qs.map fun q => V.ref q.1)) = H5 at *
    have sub1 : ∀ q ∈ qs, (q.2.map (·.1)).Sublist (fs.take (i + 1)) := fun q hq => (g4 q hq).2.trans (List.take_sublist_take_left (by omega))
    refine ⟨_, rfl, f, rfl, ⟨_, SqL.of f5⟩, zcD (K := K) (a := f) (xs := qs.map fun q => V.ref q.1) (fun j σ H' => (∃ (l : Addr) (y7 : Option V) (us : List (Addr × List PP)), σ = [some (.ref a), some (.ref t), some (.int wide), some (.ref p), some (.ref f), some (.str fi), some (.ref l), y7] ∧ H' l = some (.lst (us.map fun q => V.ref q.1)) ∧ us.length ≤ 20 ^ i + 19 * j ∧ ∀ q ∈ us, PieceAt H' q.1 q.2 ∧ (q.2.map (·.1)).Sublist (fs.take (i + 1))) ∧ Same H5 H') ⟨⟨l0, _, qs, rfl, e5, by omega, fun q hq => ⟨(g5 q hq).1, sub1 q hq⟩⟩, Same.refl _⟩ (fun j σ H' _ ⟨_, z⟩ => SqL.of (z _ _ f5)) ?_ ?_⟩
    · rintro j x σ H6 hx ⟨⟨l, y7', us, rfl, e6, l6, g6⟩, s6⟩
      rw [List.getElem?_map] at hx
      cases eq : qs[j]? with
      | none => rw [eq] at hx; cases hx
      | some q0 =>
       rw [eq] at hx
       obtain rfl : V.ref q0.1 = x := Option.some.inj hx
       have hq0 := List.mem_of_getElem? eq
       have lj : j < 400 := by have := (List.getElem?_eq_some_iff.mp eq).1; omega
       have k6 := s6 _ _ (S5 _ _ k3)
       obtain ⟨cs, hcs, hC, hD⟩ := (g5 q0 hq0).1.same s6
       have sq0 := (g5 q0 hq0).2
       have lc : cs.length ≤ 3 := by
        have h1 := sq0.length_le
        rw [← hcs] at h1
        simp at h1
        omega
       refine ⟨_, rfl, _, rfl, p, rfl, ⟨_, SqL.of k6⟩, fun m hm => ?_⟩
       refine zdm (xs := ns.map V.int) (fun k σ' ys H' => (∃ v, σ' = [v, some (.str fi), some (.ref q0.1)]) ∧ Same H6 H' ∧ H' m = some (.lst ys) ∧ ∃ vs : List (Addr × List PP), ys = vs.map (fun q => V.ref q.1) ∧ vs.length = k ∧ ∀ q ∈ vs, PieceAt H' q.1 q.2 ∧ (q.2.map (·.1)).Sublist (fs.take (i + 1))) ⟨⟨none, rfl⟩, zae hm _, zab, [], rfl, rfl, fun q hq => by simp at hq⟩ ?_ ?_ ?_
       · rintro k σ' ys H' hk ⟨_, s, h1, vs, rfl, h2, _⟩
         rw [List.length_map] at hk
         exact ⟨s.seq (SqL.of k6), h1, by rw [List.length_map, h2]; exact zax (by omega)⟩
       · rintro k y σ' ys H7 N hy ⟨⟨v, rfl⟩, s7, h7, vs, rfl, v7, g7⟩ hN
         rw [List.getElem?_map] at hy
         cases en : ns[k]? with
         | none => rw [en] at hy; cases hy
         | some nk =>
          rw [en] at hy
          obtain rfl : V.int nk = y := Option.some.inj hy
          refine ⟨_, rfl, _, rfl, _, rfl, zq2, fun c1 hc1 => ?_⟩
          have s8 := zae hc1 (.tup [V.str fi, V.int nk])
          have e8 : (upd H7 c1 (.tup [V.str fi, V.int nk])) c1 = some (.tup [V.str fi, V.int nk]) := zab
          generalize upd H7 c1 (.tup [V.str fi, V.int nk]) = H8 at *
          refine ⟨(by show 1 ≤ sizeLine; decide), fun c2 hc2 => ?_⟩
          have s9 := zae hc2 (.tup [V.ref c1])
          have e9 : (upd H8 c2 (.tup [V.ref c1])) c2 = some (.tup [V.ref c1]) := zab
          generalize upd H8 c2 (.tup [V.ref c1]) = H9 at *
          have t9 := s7.trans (s8.trans s9)
          refine ⟨q0.1, c2, _, _, rfl, rfl, t9 _ _ hC, e9, (by rw [List.length_map]; exact zeA (by simp; omega)), fun c3 H10 s10 e10 => ?_⟩
          have s810 := s8.trans (s9.trans s10)
          have h10 := s810 _ _ h7
          have tl := zb0 (o := .lst (vs.map (fun q => V.ref q.1) ++ [V.ref c3])) h10
          refine ⟨h10, hN _ _ _ ⟨⟨_, rfl⟩, zbL (s7.trans s810) hm, zab, vs ++ [(c3, q0.2 ++ [(fi, nk)])], by rw [List.map_append]; rfl, by rw [List.length_append, v7]; rfl, fun q hq => ?_⟩⟩
          rcases List.mem_append.mp hq with z | z
          · exact ⟨((g7 q z).1.same s810).keep tl, (g7 q z).2⟩
          · rw [List.mem_singleton.mp z]
            refine ⟨⟨cs ++ [(c1, fi, nk)], by rw [List.map_append, hcs]; rfl, ?_, fun x hx => ?_⟩, ?_⟩
            · exact tl _ _ (by rw [e10, List.map_append]; rfl)
            · rcases List.mem_append.mp hx with y | y
              · exact tl _ _ (s10 _ _ (t9 _ _ (hD x y)))
              · rw [List.mem_singleton.mp y]
                exact tl _ _ (s10 _ _ (s9 _ _ e8))
            · rw [List.map_append, zaw ef]
              exact sq0.append (List.Sublist.refl _)
       · rintro σ' ys H7 ⟨_, s7, h7, vs, rfl, v7, g7⟩
         rw [List.length_map] at v7
         refine ⟨l, m, _, _, rfl, rfl, s7 _ _ e6, h7, (by rw [List.length_map, List.length_map]; exact Nat.le_trans (show us.length + vs.length ≤ 10000 by omega) (by decide)), fun r hr' => ?_⟩
         have s8 := zae hr' (.lst (us.map (fun q => V.ref q.1) ++ vs.map fun q => V.ref q.1))
         refine ⟨⟨r, _, us ++ vs, rfl, by rw [zab, List.map_append], by rw [List.length_append]; omega, fun q hq => ?_⟩, s6.trans (s7.trans s8)⟩
         rcases List.mem_append.mp hq with z | z
         · exact ⟨(g6 q z).1.same (s7.trans s8), (g6 q z).2⟩
         · exact ⟨(g7 q z).1.same s8, (g7 q z).2⟩
    · rintro σ H6 ⟨⟨l, y7', us, rfl, e6, l6, g6⟩, s6⟩
      rw [List.length_map] at l6
      refine ⟨_, rfl, ⟨l, _, _, _, us, rfl, e6, ?_, g6⟩, S5.trans s6⟩
      rw [Nat.pow_succ]
      omega
 · rintro σ H4 ⟨⟨f, y5, y6, y7, qs, rfl, e4, l4, g4⟩, s4⟩
   rw [List.length_map] at l4 g4
   rw [List.take_of_length_le (Nat.le_refl _)] at g4
   refine ⟨_, rfl, q f qs _ (S3.trans s4) e4 ?_ fun q hq => ⟨(g4 q hq).1, ?_⟩⟩
   · have : (20 : Nat) ^ fs.length ≤ 20 ^ 3 := Nat.pow_le_pow_right (by decide) lf
     omega
   · obtain ⟨_, sub⟩ := g4 q hq
     refine ⟨?_, fun x hx => fok _ (sub.subset (List.mem_map_of_mem hx)), fasc.sublist sub⟩
     have := sub.length_le
     rw [List.length_map] at this
     omega
theorem zfH (F : Fun K "_law_alike" "_law_alike" zbv f fd)  (M_self : mg "_law_alike" = some (.ref f)) : FnOk P w K mg base CX0 11 f fd ["found", "due"] (zhc 9 zev) := by
 have b_self := F.binds (ps := ["found", "due"]) fun _ _ _ _ _ _ us hl => match us, hl with | [_, _], _ => rfl
 refine zkz (L := 0) (D := 9) (zkg F zdr b_self M_self 0 (zev) fun n sp0 hsp G_law_alike => ?_)
 refine F.ok zdr (fun vs H Q E h => ?_) (fun cdv A outer s H vs Q E hr h => ?_)
 · obtain ⟨v, v', d, rfl, n9, h1, h2, hn, q⟩ := h
   rfl
 obtain ⟨v, v', d, rfl, n9, h1, h2, hn, q⟩ := h
 refine ⟨_, (zad (zaK (zbb (zai zdx rfl B.isinstance_ zak (zaa (pv 1) (zaa (zaJ (zaa (zaD (v := .ty "list") rfl B.list_ zcP rfl) (zaa (zaD (v := .ty "tuple") rfl B.tuple_ zbi rfl) zac))) zac)))) (zad (zaK (PW.pt (zcW (zbl (zbb (zai zdx rfl B.isinstance_ zak (zaa (pv 0) (zaa (zaJ (zaa (zaD (v := .ty "list") rfl B.list_ zcP rfl) (zaa (zaD (v := .ty "tuple") rfl B.tuple_ zbi rfl) zac))) zac))))) (zcd (zav zfB (zai (zaq (n := "")) rfl B.isinstance_ zak (zaa (pv 0) (zaa (zaD (v := .ty "list") rfl B.list_ zcP rfl) zac))) (zai (zaq (n := "")) rfl B.isinstance_ zak (zaa (pv 1) (zaa (zaD (v := .ty "list") rfl B.list_ zcP rfl) zac))) (zaA _))))) (zah (zap zcF)) zas)
  (zah (zap (zcG (zcM zdU (zai zau rfl B.len_ zba (zaa (pv 0) zac)) (zai zau rfl B.len_ zba (zaa (pv 1) zac)) (zaA _)) (zcg (zai (zdc rfl) rfl B.all_ zf2 (zaa (zc0 (N' := ["k", "found", "due"]) (js := [none, some 0, some 1]) rfl (zbX (N := ["found", "due"]) (outer := zag zbv) (by decide +kernel)) (zcZ rfl B.range_ (zaa (zai zau rfl B.len_ zba (zaa (pv 1) zac)) zac)) (fun _ _ _ _ _ => (zaj (i := 0) (show List.Nodup (["k", "found", "due"] : List Str) by decide +kernel) rfl (Or.inl rfl))) (fun _ _ _ _ _ => zaM) (fun _ _ _ _ _ => (zay G_law_alike (hr.mono (by omega)) rfl (zaa (zaG (ziX K rfl) (pv 1) (pv 0) (fun _ _ => rfl)) (zaa (zaG (ziX K rfl) (pv 2) (pv 0) (fun _ _ => rfl)) zac))))) zac))))))) zas)
  (zad (zaK (PW.pt (zcW (zbI (zcH (pv 1))) (zcd (zbI (zcH (pv 0)))))) (zah (zap (zcG (zfx (zcH (pv 1))) (zcg (zfx (zcH (pv 0))))))) zas)
  (zad (zaK (PW.pt (zcW (zav zfB (zai (zaq (n := "")) rfl B.isinstance_ zak (zaa (pv 1) (zaa (zaD (v := .ty "bool") rfl B.bool_ ze9 rfl) zac))) (zai (zaq (n := "")) rfl B.isinstance_ zak (zaa (pv 0) (zaa (zaD (v := .ty "bool") rfl B.bool_ ze9 rfl) zac))) (zaA _)) (zcd (zav zfB (zai (zaq (n := "")) rfl B.isinstance_ zak (zaa (pv 1) (zaa (zaD (v := .ty "int") rfl B.int_ zhs rfl) zac))) (zai (zaq (n := "")) rfl B.isinstance_ zak (zaa (pv 0) (zaa (zaD (v := .ty "int") rfl B.int_ zhs rfl) zac))) (zaA _))))) (zah (zap zcF)) zas)
  (zah (zap (zcG (zcM zdU (zai (zaq (n := "")) rfl B.isinstance_ zak (zaa (pv 0) (zaa (zaD (v := .ty "str") rfl B.str_ zhr rfl) zac))) (zai (zaq (n := "")) rfl B.isinstance_ zak (zaa (pv 1) (zaa (zaD (v := .ty "str") rfl B.str_ zhr rfl) zac))) (zaA _)) (zcg (zcM (zlu (zca hr)) (pv 0) (pv 1) (zaA _))))))))), ?_⟩
 cases d with
 | non =>
  rw [RepY] at h1 h2
  subst h1 h2
  refine ⟨_, rfl, zq2, fun t1 ht1 => ?_⟩
  have s1 := zae ht1 (.tup [V.ty "list", V.ty "tuple"])
  have c1 : (upd H t1 (.tup [V.ty "list", V.ty "tuple"])) t1 = some (.tup [V.ty "list", V.ty "tuple"]) := zab
  generalize upd H t1 (.tup [V.ty "list", V.ty "tuple"]) = H1 at *
  refine ⟨_, "NoneType", t1, _, false, rfl, .non, c1, rfl, rfl, _, rfl, iteF ?_⟩
  exact ⟨_, rfl, _, rfl, iteT (iteT ⟨_, rfl, _, rfl, iteT ⟨_, rfl, q H1 s1⟩⟩)⟩
 | bl x =>
  have r1 := h1
  have r2 := h2
  rw [RepY] at h1 h2
  subst h1 h2
  refine ⟨_, rfl, zq2, fun t1 ht1 => ?_⟩
  have s1 := zae ht1 (.tup [V.ty "list", V.ty "tuple"])
  have c1 : (upd H t1 (.tup [V.ty "list", V.ty "tuple"])) t1 = some (.tup [V.ty "list", V.ty "tuple"]) := zab
  generalize upd H t1 (.tup [V.ty "list", V.ty "tuple"]) = H1 at *
  refine ⟨_, "bool", t1, _, false, rfl, .bl x, c1, rfl, rfl, _, rfl, iteF ?_⟩
  refine ⟨_, rfl, _, rfl, iteF ⟨_, rfl, _, rfl, iteF ?_⟩⟩
  refine ⟨_, rfl, _, "bool", "bool", true, rfl, .bl x, rfl, _, rfl, _, "bool", "bool", true, rfl, .bl x, rfl, rfl, _, rfl, iteF ?_⟩
  refine ⟨_, rfl, _, "bool", "int", true, rfl, .bl x, rfl, _, rfl, _, "bool", "int", true, rfl, .bl x, rfl, rfl, _, rfl, iteF ?_⟩
  refine ⟨_, rfl, _, "bool", "str", false, rfl, .bl x, rfl, _, rfl, _, "bool", "str", false, rfl, .bl x, rfl, rfl, _, rfl, iteT ?_⟩
  exact ⟨_, rfl, _, rfl, _, RepY.same s1 _ r1, RepY.same s1 _ r2, by omega, q H1 s1⟩
 | int x =>
  have r1 := h1
  have r2 := h2
  rw [RepY] at h1 h2
  subst h1 h2
  refine ⟨_, rfl, zq2, fun t1 ht1 => ?_⟩
  have s1 := zae ht1 (.tup [V.ty "list", V.ty "tuple"])
  have c1 : (upd H t1 (.tup [V.ty "list", V.ty "tuple"])) t1 = some (.tup [V.ty "list", V.ty "tuple"]) := zab
  generalize upd H t1 (.tup [V.ty "list", V.ty "tuple"]) = H1 at *
  refine ⟨_, "int", t1, _, false, rfl, .int x, c1, rfl, rfl, _, rfl, iteF ?_⟩
  refine ⟨_, rfl, _, rfl, iteF ⟨_, rfl, _, rfl, iteF ?_⟩⟩
  refine ⟨_, rfl, _, "int", "bool", false, rfl, .int x, rfl, _, rfl, _, "int", "bool", false, rfl, .int x, rfl, rfl, _, rfl, iteF ?_⟩
  refine ⟨_, rfl, _, "int", "int", true, rfl, .int x, rfl, _, rfl, _, "int", "int", true, rfl, .int x, rfl, rfl, _, rfl, iteF ?_⟩
  refine ⟨_, rfl, _, "int", "str", false, rfl, .int x, rfl, _, rfl, _, "int", "str", false, rfl, .int x, rfl, rfl, _, rfl, iteT ?_⟩
  exact ⟨_, rfl, _, rfl, _, RepY.same s1 _ r1, RepY.same s1 _ r2, by omega, q H1 s1⟩
 | str x =>
  have r1 := h1
  have r2 := h2
  rw [RepY] at h1 h2
  obtain ⟨rfl, hx⟩ := h1
  obtain ⟨rfl, _⟩ := h2
  refine ⟨_, rfl, zq2, fun t1 ht1 => ?_⟩
  have s1 := zae ht1 (.tup [V.ty "list", V.ty "tuple"])
  have c1 : (upd H t1 (.tup [V.ty "list", V.ty "tuple"])) t1 = some (.tup [V.ty "list", V.ty "tuple"]) := zab
  generalize upd H t1 (.tup [V.ty "list", V.ty "tuple"]) = H1 at *
  refine ⟨_, "str", t1, _, false, rfl, .str x, c1, rfl, rfl, _, rfl, iteF ?_⟩
  refine ⟨_, rfl, _, rfl, iteF ⟨_, rfl, _, rfl, iteF ?_⟩⟩
  refine ⟨_, rfl, _, "str", "bool", false, rfl, .str x, rfl, _, rfl, _, "str", "bool", false, rfl, .str x, rfl, rfl, _, rfl, iteF ?_⟩
  refine ⟨_, rfl, _, "str", "int", false, rfl, .str x, rfl, _, rfl, _, "str", "int", false, rfl, .str x, rfl, rfl, _, rfl, iteF ?_⟩
  refine ⟨_, rfl, _, "str", "str", true, rfl, .str x, rfl, _, rfl, _, "str", "str", true, rfl, .str x, rfl, rfl, _, rfl, iteT ?_⟩
  exact ⟨_, rfl, _, rfl, _, RepY.same s1 _ r1, RepY.same s1 _ r2, by omega, q H1 s1⟩
 | dic =>
  have r1 := h1
  have r2 := h2
  rw [RepY] at h1 h2
  obtain ⟨a, rfl, ha⟩ := h1
  obtain ⟨a', rfl, ha'⟩ := h2
  refine ⟨_, rfl, zq2, fun t1 ht1 => ?_⟩
  have s1 := zae ht1 (.tup [V.ty "list", V.ty "tuple"])
  have c1 : (upd H t1 (.tup [V.ty "list", V.ty "tuple"])) t1 = some (.tup [V.ty "list", V.ty "tuple"]) := zab
  generalize upd H t1 (.tup [V.ty "list", V.ty "tuple"]) = H1 at *
  refine ⟨_, "dict", t1, _, false, rfl, .dK (s1 _ _ ha'), c1, rfl, rfl, _, rfl, iteF ?_⟩
  refine ⟨_, rfl, _, rfl, iteF ⟨_, rfl, _, rfl, iteF ?_⟩⟩
  refine ⟨_, rfl, _, "dict", "bool", false, rfl, .dK (s1 _ _ ha'), rfl, _, rfl, _, "dict", "bool", false, rfl, .dK (s1 _ _ ha), rfl, rfl, _, rfl, iteF ?_⟩
  refine ⟨_, rfl, _, "dict", "int", false, rfl, .dK (s1 _ _ ha'), rfl, _, rfl, _, "dict", "int", false, rfl, .dK (s1 _ _ ha), rfl, rfl, _, rfl, iteF ?_⟩
  refine ⟨_, rfl, _, "dict", "str", false, rfl, .dK (s1 _ _ ha), rfl, _, rfl, _, "dict", "str", false, rfl, .dK (s1 _ _ ha'), rfl, rfl, _, rfl, iteT ?_⟩
  exact ⟨_, rfl, _, rfl, _, RepY.same s1 _ r1, RepY.same s1 _ r2, by omega, q H1 s1⟩
 | da d =>
  have r1 := h1
  have r2 := h2
  rw [RepY] at h1 h2
  obtain ⟨a, u, rfl, ha, hu⟩ := h1
  obtain ⟨a', u', rfl, ha', hu'⟩ := h2
  refine ⟨_, rfl, zq2, fun t1 ht1 => ?_⟩
  have s1 := zae ht1 (.tup [V.ty "list", V.ty "tuple"])
  have c1 : (upd H t1 (.tup [V.ty "list", V.ty "tuple"])) t1 = some (.tup [V.ty "list", V.ty "tuple"]) := zab
  generalize upd H t1 (.tup [V.ty "list", V.ty "tuple"]) = H1 at *
  refine ⟨_, "dict", t1, _, false, rfl, .dK (s1 _ _ ha'), c1, rfl, rfl, _, rfl, iteF ?_⟩
  refine ⟨_, rfl, _, rfl, iteF ⟨_, rfl, _, rfl, iteF ?_⟩⟩
  refine ⟨_, rfl, _, "dict", "bool", false, rfl, .dK (s1 _ _ ha'), rfl, _, rfl, _, "dict", "bool", false, rfl, .dK (s1 _ _ ha), rfl, rfl, _, rfl, iteF ?_⟩
  refine ⟨_, rfl, _, "dict", "int", false, rfl, .dK (s1 _ _ ha'), rfl, _, rfl, _, "dict", "int", false, rfl, .dK (s1 _ _ ha), rfl, rfl, _, rfl, iteF ?_⟩
  refine ⟨_, rfl, _, "dict", "str", false, rfl, .dK (s1 _ _ ha), rfl, _, rfl, _, "dict", "str", false, rfl, .dK (s1 _ _ ha'), rfl, rfl, _, rfl, iteT ?_⟩
  exact ⟨_, rfl, _, rfl, _, RepY.same s1 _ r1, RepY.same s1 _ r2, by omega, q H1 s1⟩
 | lst ds =>
  rw [RepY] at h1 h2
  obtain ⟨a, xs, rfl, ha, h9, hx⟩ := h1
  obtain ⟨a', xs', rfl, ha', _, hx'⟩ := h2
  obtain ⟨m, rfl⟩ : ∃ m, n = m + 1 := ⟨n - 1, by rw [zaH] at hn; omega⟩
  have e0 := hsp m rfl
  subst e0
  rw [zaH] at hn
  have hl := hx.length
  have hl' := hx'.length
  refine ⟨_, rfl, zq2, fun t1 ht1 => ?_⟩
  have s1 := zae ht1 (.tup [V.ty "list", V.ty "tuple"])
  have c1 : (upd H t1 (.tup [V.ty "list", V.ty "tuple"])) t1 = some (.tup [V.ty "list", V.ty "tuple"]) := zab
  generalize upd H t1 (.tup [V.ty "list", V.ty "tuple"]) = H1 at *
  refine ⟨_, "list", t1, _, true, rfl, .lst (s1 _ _ ha'), c1, rfl, rfl, _, rfl, iteT ⟨_, rfl, zq2, fun t2 ht2 => ?_⟩⟩
  have s2 := zae ht2 (.tup [V.ty "list", V.ty "tuple"])
  have c2 : (upd H1 t2 (.tup [V.ty "list", V.ty "tuple"])) t2 = some (.tup [V.ty "list", V.ty "tuple"]) := zab
  generalize upd H1 t2 (.tup [V.ty "list", V.ty "tuple"]) = H2 at *
  have S := s1.trans s2
  have ka := S _ _ ha
  have ka' := S _ _ ha'
  refine ⟨_, "list", t2, _, true, rfl, .lst ka, c2, rfl, rfl, _, rfl, iteF ⟨_, rfl, _, "list", "list", true, rfl, .lst ka, rfl, _, rfl, _, "list", "list", true, rfl, .lst ka', rfl, rfl, _, rfl, iteF ?_⟩⟩
  refine ⟨_, rfl, a, _, rfl, .inl (SqL.of ka), _, rfl, a', _, rfl, .inl (SqL.of ka'), rfl, _, rfl, ?_⟩
  rw [decide_eq_true (show V.int ((xs.length : Nat) : Int) = V.int ((xs'.length : Nat) : Int) by rw [hl, hl'])]
  refine iteT ⟨_, rfl, a', _, rfl, .inl (SqL.of ka'), _, rfl, by omega, by omega, fun p hp => ?_⟩
  have s3 := zae hp (.lst [])
  refine zdG (n := ((xs'.length : Nat) : Int).toNat) (fun i σ' ys H' => (∃ v, σ' = [v, some (.ref a), some (.ref a')]) ∧ Same H2 H' ∧ H' p = some (.lst ys) ∧ ys = (List.replicate i true).map V.bl) ⟨⟨none, rfl⟩, s3, zab, rfl⟩ ?_ ?_ ?_
  · rintro i σ' ys H' hi ⟨_, _, h1, h2⟩
    exact ⟨h1, by rw [h2, List.length_map, List.length_replicate]; exact zax (by omega)⟩
  · rintro i σ' ys H4 N hi ⟨⟨v, rfl⟩, s4, h1, h2⟩ hN
    have hi2 : i < xs'.length := by omega
    obtain ⟨x, ex⟩ : ∃ x, xs[i]? = some x := ⟨xs[i]'(by omega), by simp [hl, hl', hi2]⟩
    obtain ⟨x', ex'⟩ : ∃ x, xs'[i]? = some x := ⟨xs'[i], by simp [hi2]⟩
    obtain ⟨d, ed, rd⟩ := hx.get ex
    obtain ⟨d', ed', rd'⟩ := hx'.get ex'
    rw [ed] at ed'
    injection ed' with ed'
    subst ed'
    have e0 : (0 : Int) + (i : Int) = (i : Int) := by omega
    have at1 : atI xs (0 + (i : Int)) = some x := by rw [e0]; exact zbC ex
    have at2 : atI xs' (0 + (i : Int)) = some x' := by rw [e0]; exact zbC ex'
    have S4 := S.trans s4
    refine ⟨_, rfl, _, rfl, a, xs, _, x, rfl, rfl, .inl (SqL.of (S4 _ _ ha)), at1, _, rfl, _, rfl, a', xs', _, x', rfl, rfl, .inl (SqL.of (S4 _ _ ha')), at2, x, x', d, rfl, by omega, RepY.same S4 d rd, RepY.same S4 d rd', by have := zdp (List.mem_of_getElem? ed); omega, fun H5 s5 => ⟨s5 _ _ h1, hN _ _ _ ⟨⟨_, rfl⟩, ?_, zab, ?_⟩⟩⟩
    · intro b o q
      have : b ≠ p := fun z => by rw [z, hp] at q; cases q
      rw [zan this]
      exact s5 _ _ (s4 b o q)
    · rw [h2, List.replicate_succ', List.map_append]; rfl
  · rintro σ' ys H4 ⟨_, s4, h1, h2⟩
    refine ⟨p, _, rfl, SqL.of (by rw [h1, h2]), ?_⟩
    have e : (List.replicate ((xs'.length : Nat) : Int).toNat true).all id = true := by simp
    rw [e]
    exact q H4 (S.trans s4)
 | tup ds =>
  rw [RepY] at h1 h2
  obtain ⟨a, xs, rfl, ha, h9, hx⟩ := h1
  obtain ⟨a', xs', rfl, ha', _, hx'⟩ := h2
  obtain ⟨m, rfl⟩ : ∃ m, n = m + 1 := ⟨n - 1, by rw [zaH] at hn; omega⟩
  have e0 := hsp m rfl
  subst e0
  rw [zaH] at hn
  have hl := hx.length
  have hl' := hx'.length
  refine ⟨_, rfl, zq2, fun t1 ht1 => ?_⟩
  have s1 := zae ht1 (.tup [V.ty "list", V.ty "tuple"])
  have c1 : (upd H t1 (.tup [V.ty "list", V.ty "tuple"])) t1 = some (.tup [V.ty "list", V.ty "tuple"]) := zab
  generalize upd H t1 (.tup [V.ty "list", V.ty "tuple"]) = H1 at *
  refine ⟨_, "tuple", t1, _, true, rfl, .tup (s1 _ _ ha'), c1, rfl, rfl, _, rfl, iteT ⟨_, rfl, zq2, fun t2 ht2 => ?_⟩⟩
  have s2 := zae ht2 (.tup [V.ty "list", V.ty "tuple"])
  have c2 : (upd H1 t2 (.tup [V.ty "list", V.ty "tuple"])) t2 = some (.tup [V.ty "list", V.ty "tuple"]) := zab
  generalize upd H1 t2 (.tup [V.ty "list", V.ty "tuple"]) = H2 at *
  have S := s1.trans s2
  have ka := S _ _ ha
  have ka' := S _ _ ha'
  refine ⟨_, "tuple", t2, _, true, rfl, .tup ka, c2, rfl, rfl, _, rfl, iteF ⟨_, rfl, _, "tuple", "list", false, rfl, .tup ka, rfl, _, rfl, _, "tuple", "list", false, rfl, .tup ka', rfl, rfl, _, rfl, iteF ?_⟩⟩
  refine ⟨_, rfl, a, _, rfl, .inr (SqT.of ka), _, rfl, a', _, rfl, .inr (SqT.of ka'), rfl, _, rfl, ?_⟩
  rw [decide_eq_true (show V.int ((xs.length : Nat) : Int) = V.int ((xs'.length : Nat) : Int) by rw [hl, hl'])]
  refine iteT ⟨_, rfl, a', _, rfl, .inr (SqT.of ka'), _, rfl, by omega, by omega, fun p hp => ?_⟩
  have s3 := zae hp (.lst [])
  refine zdG (n := ((xs'.length : Nat) : Int).toNat) (fun i σ' ys H' => (∃ v, σ' = [v, some (.ref a), some (.ref a')]) ∧ Same H2 H' ∧ H' p = some (.lst ys) ∧ ys = (List.replicate i true).map V.bl) ⟨⟨none, rfl⟩, s3, zab, rfl⟩ ?_ ?_ ?_
  · rintro i σ' ys H' hi ⟨_, _, h1, h2⟩
    exact ⟨h1, by rw [h2, List.length_map, List.length_replicate]; exact zax (by omega)⟩
  · rintro i σ' ys H4 N hi ⟨⟨v, rfl⟩, s4, h1, h2⟩ hN
    have hi2 : i < xs'.length := by omega
    obtain ⟨x, ex⟩ : ∃ x, xs[i]? = some x := ⟨xs[i]'(by omega), by simp [hl, hl', hi2]⟩
    obtain ⟨x', ex'⟩ : ∃ x, xs'[i]? = some x := ⟨xs'[i], by simp [hi2]⟩
    obtain ⟨d, ed, rd⟩ := hx.get ex
    obtain ⟨d', ed', rd'⟩ := hx'.get ex'
    rw [ed] at ed'
    injection ed' with ed'
    subst ed'
    have e0 : (0 : Int) + (i : Int) = (i : Int) := by omega
    have at1 : atI xs (0 + (i : Int)) = some x := by rw [e0]; exact zbC ex
    have at2 : atI xs' (0 + (i : Int)) = some x' := by rw [e0]; exact zbC ex'
    have S4 := S.trans s4
    refine ⟨_, rfl, _, rfl, a, xs, _, x, rfl, rfl, .inr (SqT.of (S4 _ _ ha)), at1, _, rfl, _, rfl, a', xs', _, x', rfl, rfl, .inr (SqT.of (S4 _ _ ha')), at2, x, x', d, rfl, by omega, RepY.same S4 d rd, RepY.same S4 d rd', by have := zdp (List.mem_of_getElem? ed); omega, fun H5 s5 => ⟨s5 _ _ h1, hN _ _ _ ⟨⟨_, rfl⟩, ?_, zab, ?_⟩⟩⟩
    · intro b o q
      have : b ≠ p := fun z => by rw [z, hp] at q; cases q
      rw [zan this]
      exact s5 _ _ (s4 b o q)
    · rw [h2, List.replicate_succ', List.map_append]; rfl
  · rintro σ' ys H4 ⟨_, s4, h1, h2⟩
    refine ⟨p, _, rfl, SqL.of (by rw [h1, h2]), ?_⟩
    have e : (List.replicate ((xs'.length : Nat) : Int).toNat true).all id = true := by simp
    rw [e]
    exact q H4 (S.trans s4)
theorem zgE (F : Fun K "_law_free" "_law_free" zbR f fd) (G_law_wants : Γ31 P w K mg base) : FnOk P w K mg base CX0 2 f fd ["wish", "wishes", "piece"] (zij) := by
 refine F.ok zgq (fun vs H Q E h => ?_) (fun cdv A outer s H vs Q E hr h => ?_)
 · obtain ⟨a, l, c, w', os, p', rfl, hw, hl, hp, pok, q⟩ := h
   rfl
 obtain ⟨a, l, c, w', os, p', rfl, hw, hl, hp, pok, q⟩ := h
 refine ⟨_, (zah (zap (zcG (zay G_law_wants (hr.mono (by decide)) rfl (zaa (pv 0) (zaa (pv 2) zac))) (zcg (zcM (zkm (zca hr)) (zc0 (N' := ["one", "piece"]) (js := [none, some 2]) rfl (zbX (N := ["wish", "wishes", "piece"]) (outer := zag zbR) (by decide +kernel)) (zaT (pv 1)) (fun _ _ _ _ _ => (zaj (i := 0) (show List.Nodup (["one", "piece"] : List Str) by decide +kernel) rfl (Or.inl rfl))) (fun _ _ _ _ _ => zcb (zbb (zay G_law_wants (hr.mono (by decide)) rfl (zaa (pv 0) (zaa (pv 1) zac))))) (fun _ _ _ _ _ => (pv 0))) (zaY zac) (zaA _)))))), ?_⟩
 refine ⟨_, rfl, _, rfl, a, c, w', p', rfl, hw, hp, pok, fun H1 s1 => ⟨_, rfl, ?_⟩⟩
 cases tw : zat w' p' with
 | false =>
  rw [tw] at q
  exact iteF (q _ s1)
 | true =>
  rw [tw] at q
  refine iteT ?_
  have hl1 := hl.same s1
  refine ⟨_, rfl, l, rfl, ⟨_, SqL.of hl1.at'⟩, fun p hp' => ?_⟩
  refine zdm (xs := os.map fun x => V.ref x.1) (fun i σ' ys H' => (∃ v, σ' = [v, some (.ref c)]) ∧ Same H1 H' ∧ H' p = some (.lst ys) ∧ ys.length ≤ i ∧ ys.isEmpty = (os.take i).all fun o => !zat o.2 p') ⟨⟨none, rfl⟩, zae hp' _, zab, Nat.zero_le _, rfl⟩ ?_ ?_ ?_
  · rintro i σ' ys H' hi ⟨_, s, h1, h2, _⟩
    rw [List.length_map] at hi
    refine ⟨s.seq (SqL.of hl1.at'), h1, ?_⟩
    have := hl.len
    exact zax (by omega)
  · rintro i x σ' ys H2 N hx ⟨⟨v, rfl⟩, s2, h1, h2, h3⟩ hN
    rw [List.getElem?_map] at hx
    cases e1 : os[i]? with
    | none => rw [e1] at hx; cases hx
    | some O1 =>
     rw [e1] at hx
     obtain rfl : V.ref O1.1 = x := Option.some.inj hx
     obtain ⟨o1, o2⟩ := hl1.ok O1 (List.mem_of_getElem? e1)
     refine ⟨_, rfl, _, rfl, O1.1, c, O1.2, p', rfl, o1.same s2, hp.same (s1.trans s2), pok, fun H3 s3 => ⟨_, rfl, ?_⟩⟩
     cases t1 : zat O1.2 p' with
     | false =>
      refine iteF (hN _ _ _ ⟨⟨_, rfl⟩, s2.trans s3, s3 _ _ h1, by omega, ?_⟩)
      rw [zaw e1, List.all_append, h3]
      simp [t1]
     | true =>
      refine iteT ⟨_, rfl, s3 _ _ h1, hN _ _ _ ⟨⟨_, rfl⟩, zbL (s2.trans s3) hp', zab, by rw [List.length_append]; simp; omega, ?_⟩⟩
      rw [zaw e1, List.all_append]
      simp [t1]
  · rintro σ' ys H2 ⟨_, s2, h1, h2, h3⟩
    rw [List.length_map, List.take_length] at h3
    refine ⟨sz0, fun ep hep => ?_⟩
    have s3 := zae hep (.lst [])
    refine ⟨p, ep, ys, rfl, rfl, s3 _ _ h1, zab, ?_⟩
    rw [h3]
    exact q _ (s1.trans (s2.trans s3))
theorem zlw (F : Fun K "law" "law" zfq f fd) (G_law_well : Γ21 P w K mg base) (G_law_fields : Γ24 P w K mg base) (G_law_take : Γ22 P w K mg base) (G_law_grid : Γ26 P w K mg base) (G_law_wishes : Γ29 P w K mg base) (G_uncovered_piece : Γ20 P w K mg base) (G_law_is_piece : Γ32 P w K mg base) (G_law_free : Γ35 P w K mg base) (G_law_alike : Γ34 P w K mg base) (G_law_points : Γ33 P w K mg base) : FnOk P w K mg base CX0 12 f fd ["script"] (zjE K) := by
 refine F.ok sc_law (fun vs H Q E h => ?_) (fun cdv A outer s H vs Q E hr h => ?_)
 · obtain ⟨a, ns, rfl, hS, h63, q⟩ := h
   rfl
 obtain ⟨a, ns, rfl, hS, h63, q⟩ := h
 refine ⟨_, (zad (zao (i := 1) sc_law.nd rfl (Or.inl rfl) (zay G_law_well (hr.mono (by decide)) rfl (zaa (pv 0) zac)))
  (zad (zao (i := 2) sc_law.nd rfl (Or.inl rfl) (zay G_law_fields (hr.mono (by decide)) rfl (zaa (pv 1) (zaa zaf zac))))
  (zad (zao (i := 3) sc_law.nd rfl (Or.inl rfl) (zaG zaI (zaY (zaa zaf (zaa zaf (zaa zaf zac)))) (zar zdu (zai zau rfl B.len_ zba (zaa (pv 2) zac)) zaf) (fun _ _ => rfl)))
  (zad (zao (i := 4) sc_law.nd rfl (Or.inl rfl) (zay G_law_take (hr.mono (by decide)) rfl (zaa (pv 1) (zaa zaf zac))))
  (zad (zao (i := 5) sc_law.nd rfl (Or.inl rfl) (zay G_law_grid (hr.mono (by decide)) rfl (zaa (pv 1) zac)))
  (zad (zao (i := 6) sc_law.nd rfl (Or.inl rfl) (zay G_law_wishes (hr.mono (by decide)) rfl (zaa (pv 1) (zaa (pv 2) (zaa (pv 5) (zaa (pv 3) (zaa (zar zaL (pv 4) zaf) zac)))))))
  (zad (zao (i := 7) sc_law.nd rfl (Or.inl rfl) (zay G_law_take (hr.mono (by decide)) rfl (zaa (pv 1) (zaa (zar zaL (pv 4) zaf) zac))))
  (zad (zao (i := 8) sc_law.nd rfl (Or.inr rfl) (zaG zaI (pv 6) (pv 7) (fun _ _ => rfl)))
  (zad (zao (i := 9) sc_law.nd rfl (Or.inr rfl) (zar zhi (zaZ zeD (pv 6) zbn (zbm (pv 7))) (zaZ zeD (pv 6) (zbm (zar zaL (pv 7) zaf)) zbn)))
  (zad (zao (i := 10) sc_law.nd rfl (Or.inl rfl) (zbT zdw rfl B.list_ zcP (zaa (pv 9) zac)))
  (zad (zao (i := 11) sc_law.nd rfl (Or.inl rfl) (zay G_uncovered_piece (hr.mono (by decide)) rfl (zaa (pv 8) (zaa (pv 10) zac))))
  (zad (zaK (PW.pt (zcW (zbl (zbb (zay G_law_alike (hr.mono (by decide)) rfl (zaa (pv 10) (zaa (pv 9) zac))))) (zcd (zbl (zbb (zay G_law_alike (hr.mono (by decide)) rfl (zaa (zay G_uncovered_piece (hr.mono (by decide)) rfl (zaa (pv 8) (zaa (pv 9) zac))) (zaa (pv 11) zac)))))))) (zah (zap zcF)) zas)
  (zad (zaK (zbI (zcH (pv 11))) (zah (zap (zcM (zkm (zca hr)) (zc0 (N' := ["piece", "wish", "wishes"]) (js := [none, some 8, some 9]) rfl (zbX (N := ["script", "well", "names", "wide", "many", "grid", "some", "at", "wish", "wishes", "handed", "found"]) (outer := zag zfq) (by decide +kernel)) (zaT (zay G_law_points (hr.mono (by decide)) rfl (zaa (pv 2) (zaa (pv 5) (zaa (pv 3) zac))))) (fun _ _ _ _ _ => (zaj (i := 0) (show List.Nodup (["piece", "wish", "wishes"] : List Str) by decide +kernel) rfl (Or.inl rfl))) (fun _ _ _ _ _ => zcb (zbb (zay G_law_free (hr.mono (by decide)) rfl (zaa (pv 1) (zaa (pv 2) (zaa (pv 0) zac)))))) (fun _ _ _ _ _ => (pv 0))) (zaY zac) (zaA _)))) zas)
  (zah (zap (zcG (zay G_law_is_piece (hr.mono (by decide)) rfl (zaa (pv 11) zac)) (zcg (zay G_law_free (hr.mono (by decide)) rfl (zaa (pv 8) (zaa (pv 9) (zaa (pv 11) zac))))))))))))))))))))), ?_⟩
 refine ⟨_, rfl, a, ns, rfl, hS, h63, fun b g l H1 B1 S1 nb ng => ?_⟩
 refine ⟨_, rfl, b, g, l, _, 3, rfl, B1, by decide, by decide, by decide, fun na fs H2 n2 e2 asc2 ok2 l1 l3 B2 S2 => ?_⟩
 obtain ⟨xb, xg, _⟩ := B1.free n2
 have N2 : NamesAt H2 b g na fs := ⟨e2, xb, xg, by omega, ok2, asc2⟩
 refine ⟨zq3, fun wl hwl => ?_⟩
 have s3 := zae hwl (.lst [V.int 9, V.int 5, V.int 3])
 have e3 : (upd H2 wl (.lst [V.int 9, V.int 5, V.int 3])) wl = some (.lst [V.int 9, V.int 5, V.int 3]) := zab
 have B3 := B2.same s3
 have N3 := N2.sameB s3.sameB
 generalize upd H2 wl (.lst [V.int 9, V.int 5, V.int 3]) = H3 at *
 obtain ⟨wide, hwide, wd1, wd9⟩ : ∃ wide : Int, atI [V.int 9, V.int 5, V.int 3] (((fs.map V.str).length : Int) - 1) = some (.int wide) ∧ 1 ≤ wide ∧ wide ≤ 9 := by
  rw [List.length_map]
  have : fs.length = 1 ∨ fs.length = 2 ∨ fs.length = 3 := by omega
  rcases this with h | h | h <;> rw [h]
  · exact ⟨9, rfl, by decide, by decide⟩
  · exact ⟨5, rfl, by decide, by decide⟩
  · exact ⟨3, rfl, by decide, by decide⟩
 refine ⟨_, rfl, na, _, rfl, .inl (SqL.of N3.at'), _, _, rfl, rfl, wl, _, _, _, rfl, rfl, SqL.of e3, hwide, ?_⟩
 refine ⟨_, rfl, b, g, l, _, 8, rfl, B3, by decide, by decide, by decide, fun many H4 m0 m1 B4 S4 => ?_⟩
 have N4 := N3.sameB S4
 refine ⟨_, rfl, b, g, l, _, rfl, B4, by decide, fun t lo sz H5 et lo1 lo2 sz1 sz2 B5 S5 => ?_⟩
 have N5 := N4.sameB S5
 refine ⟨_, rfl, _, rfl, _, rfl, _, rfl, _, rfl, _, _, rfl, rfl, b, g, l, na, t, _, lo, sz, wide, many + 1, fs, rfl, B5, by omega, N5, et, sz1, sz2, wd1, by omega, by omega, by omega, fun r ws H6 nr W6 lw in6 B6 S6 => ?_⟩
 have N6 := N5.sameB S6
 have t6 := B5.tup S6 et
 obtain ⟨rb, rg, _⟩ := B5.free nr
 refine ⟨_, rfl, _, rfl, _, _, rfl, rfl, b, g, l, _, many + 1, rfl, B6, by omega, by omega, zeY (by omega), fun at' H7 a0 a1 B7 S7 => ?_⟩
 have N7 := N6.sameB S7
 have t7 := B6.tup S7 t6
 have W7 := W6.sameW B6 rb rg S7
 obtain ⟨k, rfl⟩ : ∃ k : Nat, at' = (k : Int) := ⟨at'.toNat, by omega⟩
 have hk : k < ws.length := by omega
 obtain ⟨X1, eX⟩ : ∃ X1, ws[k]? = some X1 := ⟨ws[k], List.getElem?_eq_getElem hk⟩
 have hX : atI (ws.map fun x => V.ref x.1) (k : Int) = some (V.ref X1.1) := zbC (by rw [List.getElem?_map, eX]; rfl)
 have mX := List.mem_of_getElem? eX
 obtain ⟨x1, x2⟩ := W7.ok X1 mX
 refine ⟨_, rfl, _, rfl, r, _, _, _, rfl, rfl, SqL.of W7.at', hX, ?_⟩
 refine ⟨_, rfl, _, rfl, _, rfl, r, _, rfl, SqL.of W7.at', fun p1 hp1 => ?_⟩
 rw [zd6 rfl, ← List.map_take]
 have s8 := zae hp1 (.lst ((ws.take k).map fun x => V.ref x.1))
 have e8 : (upd H7 p1 (.lst ((ws.take k).map fun x => V.ref x.1))) p1 = some (.lst ((ws.take k).map fun x => V.ref x.1)) := zab
 generalize upd H7 p1 (.lst ((ws.take k).map fun x => V.ref x.1)) = H8 at *
 refine ⟨_, rfl, _, rfl, _, _, rfl, rfl, _, rfl, r, _, rfl, SqL.of (s8 _ _ W7.at'), fun p2 hp2 => ?_⟩
 rw [zd8 (n := k + 1) (by omega), ← List.map_drop]
 have s9 := zae hp2 (.lst ((ws.drop (k + 1)).map fun x => V.ref x.1))
 have e9 : (upd H8 p2 (.lst ((ws.drop (k + 1)).map fun x => V.ref x.1))) p2 = some (.lst ((ws.drop (k + 1)).map fun x => V.ref x.1)) := zab
 generalize upd H8 p2 (.lst ((ws.drop (k + 1)).map fun x => V.ref x.1)) = H9 at *
 have lws : ws.length ≤ 8 := by omega
 refine ⟨p1, p2, _, _, rfl, rfl, s9 _ _ e8, e9, by rw [List.length_map, List.length_map, List.length_take, List.length_drop]; exact zeA (by omega), fun wr hwr => ?_⟩
 rw [← List.map_append]
 have s10 := zae hwr (.lst ((ws.take k ++ ws.drop (k + 1)).map fun x => V.ref x.1))
 have e10 : (upd H9 wr (.lst ((ws.take k ++ ws.drop (k + 1)).map fun x => V.ref x.1))) wr = some (.lst ((ws.take k ++ ws.drop (k + 1)).map fun x => V.ref x.1)) := zab
 have T10 := s8.trans (s9.trans s10)
 have lo7 : (ws.take k ++ ws.drop (k + 1)).length ≤ 7 := by rw [List.length_append, List.length_take, List.length_drop]; omega
 have sub : ∀ x ∈ ws.take k ++ ws.drop (k + 1), x ∈ ws := fun x hx => (List.mem_append.mp hx).elim List.mem_of_mem_take List.mem_of_mem_drop
 generalize ws.take k ++ ws.drop (k + 1) = os at *
 have O10 : WsAt (upd H9 wr (.lst (os.map fun x => V.ref x.1))) wr os := ⟨e10, fun x hx => ⟨(W7.ok x (sub x hx)).1.same T10, (W7.ok x (sub x hx)).2⟩, by omega⟩
 generalize upd H9 wr (.lst (os.map fun x => V.ref x.1)) = H10 at *
 have iX : inF fs X1.2 := (in6 X1 mX).1
 have iO : ∀ x ∈ os, inF fs x.2 := fun x hx => (in6 x (sub x hx)).1
 refine ⟨_, rfl, wr, _, rfl, .inl (SqL.of O10.at'), fun hd hhd => ?_⟩
 have s11 := zae hhd (.lst (os.map fun x => V.ref x.1))
 have e11 : (upd H10 hd (.lst (os.map fun x => V.ref x.1))) hd = some (.lst (os.map fun x => V.ref x.1)) := zab
 have O11 := O10.same s11
 generalize upd H10 hd (.lst (os.map fun x => V.ref x.1)) = H11 at *
 have T11 := T10.trans s11
 have D11 : WsAt H11 hd os := ⟨e11, O11.ok, O11.len⟩
 refine ⟨_, rfl, _, rfl, X1.1, hd, X1.2, os, fs, rfl, x1.same T11, x2, D11, lo7, by omega, iX, iO, fun v H12 s12 T12 A12 => ?_⟩
 have O12 := O11.same s12
 have D12 := D11.same s12
 refine ⟨_, rfl, _, rfl, 3, by decide, _, _, _, rfl, by decide, D12.repY, O12.repY, zh5 _, fun H13 s13 => ⟨_, rfl, iteF ?_⟩⟩
 refine ⟨_, rfl, _, rfl, X1.1, wr, X1.2, os, fs, rfl, x1.same (T11.trans (s12.trans s13)), x2, O12.same s13, lo7, by omega, iX, iO, fun v2 H14 s14 T14 A14 => ?_⟩
 have okp : ∀ p ∈ partsF X1.2 (os.map (·.2)), WOk p := fun p hp => (A12.ok p hp).1
 have T12' := T12.same (s13.trans s14)
 refine ⟨_, rfl, 3, by decide, _, _, _, rfl, by decide, zfs T14 okp, zfs T12' okp, Nat.le_trans (zh4 _) (by decide), fun H15 s15 => ⟨_, rfl, iteF ?_⟩⟩
 have T15 := T12'.same s15
 have t15 := s12.trans (s13.trans (s14.trans s15))
 have O15 := O11.same t15
 have x15 := x1.same (T11.trans t15)
 generalize partsF X1.2 (os.map (·.2)) = ps at *
 cases ps with
 | nil =>
  have : v = .non := T15
  subst this
  refine ⟨_, rfl, _, rfl, iteT ?_⟩
  have N15 := (N7.sameB T11.sameB).sameB t15.sameB
  refine ⟨_, rfl, _, rfl, _, rfl, na, t, fs, lo, sz, wide, rfl, N15.at', by omega, ok2, asc2, t15 _ _ (T11 _ _ t7), sz1, sz2, wd1, wd9, fun pr qs H16 s16 e16 l16 g16 => ?_⟩
  refine ⟨pr, rfl, ⟨_, SqL.of e16⟩, fun p hp => ?_⟩
  refine zdm (xs := qs.map fun q => V.ref q.1) (fun i σ' ys H' => (∃ v, σ' = [v, some (.ref X1.1), some (.ref wr)]) ∧ Same H16 H' ∧ H' p = some (.lst ys) ∧ ys = []) ⟨⟨none, rfl⟩, zae hp _, zab, rfl⟩ ?_ ?_ ?_
  · rintro i σ' ys H' hi ⟨_, s, h1, h2⟩
    exact ⟨s.seq (SqL.of e16), h1, by rw [h2]; exact zax (by simp)⟩
  · rintro i x σ' ys H17 N hx ⟨⟨v, rfl⟩, s17, h1, h2⟩ hN
    rw [List.getElem?_map] at hx
    cases e1 : qs[i]? with
    | none => rw [e1] at hx; cases hx
    | some Q1 =>
     rw [e1] at hx
     obtain rfl : V.ref Q1.1 = x := Option.some.inj hx
     obtain ⟨g1, g2⟩ := g16 Q1 (List.mem_of_getElem? e1)
     refine ⟨_, rfl, _, rfl, _, rfl, X1.1, wr, Q1.1, X1.2, os, Q1.2, rfl, x15.same (s16.trans s17), O15.same (s16.trans s17), g1.same s17, g2, fun H18 s18 => ⟨_, rfl, ?_⟩⟩
     have : (zat X1.2 Q1.2 && os.all fun o => !zat o.2 Q1.2) = false := by
      cases tw : zat X1.2 Q1.2 with
      | false => rfl
      | true =>
       rcases A12.full Q1.2 tw with ⟨p, hp, _⟩ | ⟨o, ho, to⟩
       · simp at hp
       · obtain ⟨y, hy, rfl⟩ := List.mem_map.mp ho
         rw [Bool.true_and, List.all_eq_false]
         exact ⟨y, hy, by rw [to]; simp⟩
     rw [this]
     exact iteF (hN _ _ _ ⟨⟨_, rfl⟩, s17.trans s18, s18 _ _ h1, h2⟩)
  · rintro σ' ys H17 ⟨_, s17, h1, rfl⟩
    refine ⟨sz0, fun ep hep => ?_⟩
    have s18 := zae hep (.lst [])
    exact ⟨p, ep, [], rfl, rfl, s18 _ _ h1, zab, q _⟩
 | cons p0 ps =>
  obtain ⟨pt, rfl, hpt⟩ := T15
  refine ⟨_, rfl, _, rfl, iteF ?_⟩
  have k0 := okp p0 List.mem_cons_self
  refine ⟨_, rfl, pt, _, rfl, hpt, zdj k0, fun H16 s16 => ⟨_, rfl, iteT ?_⟩⟩
  refine ⟨_, rfl, _, rfl, _, rfl, X1.1, wr, pt, X1.2, os, _, rfl, x15.same s16, O15.same s16, hpt.same s16, zdj k0, fun H17 s17 => ?_⟩
  obtain ⟨c1, c2⟩ := A12.sound p0 List.mem_cons_self (za8 p0) (zeN k0)
  have f0 := (A12.ok p0 List.mem_cons_self).2
  have c3 := c2 ((zbM p0).trans f0)
  have : (zat X1.2 (za8 p0) && os.all fun o => !zat o.2 (za8 p0)) = true := by
   rw [c1, Bool.true_and, List.all_eq_true]
   intro y hy
   rw [c3 y.2 (List.mem_map_of_mem hy)]
   rfl
  rw [this]
  exact q _
end
open PySem.W (nsIn mg_of mg_none_of fnOf keepIn codeIn)
abbrev dF (n : Str) (s : Stmt) := fnOf n n (zbB s) (zbp s) (zag s) .none
theorem bn1 {K : PySem.W.Frag} {x : Str} {st : Stmt} {f : Addr} {fd : FuncData} {p0 : Str} (F : Fun K x x st f fd) (h : ∀ (kV doc pm : Value) (an : Option Addr) (cdv ct u0 : Value), bindArgs (fnOf x x (zbB st) (zbp st) (zag st) .none kV doc pm an cdv ct) ⟨[u0], []⟩ = pure [(p0, u0)] := by intros; rfl) : Binds K fd [p0] [] :=
 F.binds fun kV doc pm an cdv ct us hl => match us, hl with | [u0], _ => h kV doc pm an cdv ct u0
theorem bn2 {K : PySem.W.Frag} {x : Str} {st : Stmt} {f : Addr} {fd : FuncData} {p0 p1 : Str} (F : Fun K x x st f fd) (h : ∀ (kV doc pm : Value) (an : Option Addr) (cdv ct u0 u1 : Value), bindArgs (fnOf x x (zbB st) (zbp st) (zag st) .none kV doc pm an cdv ct) ⟨[u0, u1], []⟩ = pure [(p0, u0), (p1, u1)] := by intros; rfl) : Binds K fd [p0, p1] [] :=
 F.binds fun kV doc pm an cdv ct us hl => match us, hl with | [u0, u1], _ => h kV doc pm an cdv ct u0 u1
theorem bn3 {K : PySem.W.Frag} {x : Str} {st : Stmt} {f : Addr} {fd : FuncData} {p0 p1 p2 : Str} (F : Fun K x x st f fd) (h : ∀ (kV doc pm : Value) (an : Option Addr) (cdv ct u0 u1 u2 : Value), bindArgs (fnOf x x (zbB st) (zbp st) (zag st) .none kV doc pm an cdv ct) ⟨[u0, u1, u2], []⟩ = pure [(p0, u0), (p1, u1), (p2, u2)] := by intros; rfl) : Binds K fd [p0, p1, p2] [] :=
 F.binds fun kV doc pm an cdv ct us hl => match us, hl with | [u0, u1, u2], _ => h kV doc pm an cdv ct u0 u1 u2
theorem bn4 {K : PySem.W.Frag} {x : Str} {st : Stmt} {f : Addr} {fd : FuncData} {p0 p1 p2 p3 : Str} (F : Fun K x x st f fd) (h : ∀ (kV doc pm : Value) (an : Option Addr) (cdv ct u0 u1 u2 u3 : Value), bindArgs (fnOf x x (zbB st) (zbp st) (zag st) .none kV doc pm an cdv ct) ⟨[u0, u1, u2, u3], []⟩ = pure [(p0, u0), (p1, u1), (p2, u2), (p3, u3)] := by intros; rfl) : Binds K fd [p0, p1, p2, p3] [] :=
 F.binds fun kV doc pm an cdv ct us hl => match us, hl with | [u0, u1, u2, u3], _ => h kV doc pm an cdv ct u0 u1 u2 u3
theorem bn5 {K : PySem.W.Frag} {x : Str} {st : Stmt} {f : Addr} {fd : FuncData} {p0 p1 p2 p3 p4 : Str} (F : Fun K x x st f fd) (h : ∀ (kV doc pm : Value) (an : Option Addr) (cdv ct u0 u1 u2 u3 u4 : Value), bindArgs (fnOf x x (zbB st) (zbp st) (zag st) .none kV doc pm an cdv ct) ⟨[u0, u1, u2, u3, u4], []⟩ = pure [(p0, u0), (p1, u1), (p2, u2), (p3, u3), (p4, u4)] := by intros; rfl) : Binds K fd [p0, p1, p2, p3, p4] [] :=
 F.binds fun kV doc pm an cdv ct us hl => match us, hl with | [u0, u1, u2, u3, u4], _ => h kV doc pm an cdv ct u0 u1 u2 u3 u4
theorem all_mk {l : PySem.W.OpenLaw} {w : World} {K : PySem.W.Frag} {h : Heap} {mg : Str → Option Value} {fa f1 f2 f3 f4 f5 f6 f7 f8 f9 f10 f11 f12 f13 f14 f15 f16 f17 f18 f19 f20 f21 f22 f23 f24 f25 f26 f27 f28 f29 f30 f31 f32 f33 f34 f35 f36 f37 : Addr} (X : K.In h) (G : h.Ns mainGlobals mg) (hfa : mg "law" = some (.ref fa))
 {od1 od2 od3 od4 od5 od6 od7 od8 od9 od10 od11 od12 od13 od14 od15 od16 od17 od18 od19 od20 od21 od22 od23 od24 od25 od26 od27 od28 od29 od30 od31 od32 od33 od34 od35 od36 od37 an1 an2 an3 an4 an5 an6 an7 an8 an9 an10 an11 an12 an13 an14 an15 an16 an17 an18 an19 an20 an21 an22 an23 an24 an25 an26 an27 an28 an29 an30 an31 an32 an33 an34 an35 an36 an37 : Option Addr} {sl1 sl2 sl3 sl4 sl5 sl6 sl7 sl8 sl9 sl10 sl11 sl12 sl13 sl14 sl15 sl16 sl17 sl18 sl19 sl20 sl21 sl22 sl23 sl24 sl25 sl26 sl27 sl28 sl29 sl30 sl31 sl32 sl33 sl34 sl35 sl36 sl37 : Array (Option Value)} {oc1 oc2 oc3 oc4 oc5 oc6 oc7 oc8 oc9 oc10 oc11 oc12 oc13 oc14 oc15 oc16 oc17 oc18 oc19 oc20 oc21 oc22 oc23 oc24 oc25 oc26 oc27 oc28 oc29 oc30 oc31 oc32 oc33 oc34 oc35 oc36 oc37 kV1 kV2 kV3 kV4 kV5 kV6 kV7 kV8 kV9 kV10 kV11 kV12 kV13 kV14 kV15 kV16 kV17 kV18 kV19 kV20 kV21 kV22 kV23 kV24 kV25 kV26 kV27 kV28 kV29 kV30 kV31 kV32 kV33 kV34 kV35 kV36 kV37 dc1 dc2 dc3 dc4 dc5 dc6 dc7 dc8 dc9 dc10 dc11 dc12 dc13 dc14 dc15 dc16 dc17 dc18 dc19 dc20 dc21 dc22 dc23 dc24 dc25 dc26 dc27 dc28 dc29 dc30 dc31 dc32 dc33 dc34 dc35 dc36 dc37 pm1 pm2 pm3 pm4 pm5 pm6 pm7 pm8 pm9 pm10 pm11 pm12 pm13 pm14 pm15 pm16 pm17 pm18 pm19 pm20 pm21 pm22 pm23 pm24 pm25 pm26 pm27 pm28 pm29 pm30 pm31 pm32 pm33 pm34 pm35 pm36 pm37 cd1 cd2 cd3 cd4 cd5 cd6 cd7 cd8 cd9 cd10 cd11 cd12 cd13 cd14 cd15 cd16 cd17 cd18 cd19 cd20 cd21 cd22 cd23 cd24 cd25 cd26 cd27 cd28 cd29 cd30 cd31 cd32 cd33 cd34 cd35 cd36 cd37 ct1 ct2 ct3 ct4 ct5 ct6 ct7 ct8 ct9 ct10 ct11 ct12 ct13 ct14 ct15 ct16 ct17 ct18 ct19 ct20 ct21 ct22 ct23 ct24 ct25 ct26 ct27 ct28 ct29 ct30 ct31 ct32 ct33 ct34 ct35 ct36 ct37 : Value}
 (a1 : nsIn K mainGlobals "is_whole" = some (some (.ref f1))) (l1 : K.lookup f1 = some ⟨oc1, od1, .func (dF "is_whole" zcz kV1 dc1 pm1 an1 cd1 ct1), sl1⟩) (c1 : codeIn K cd1 "is_whole" = true) (k1 : keepIn K (.ref f1) = true)
 (a2 : nsIn K mainGlobals "is_end" = some (some (.ref f2))) (l2 : K.lookup f2 = some ⟨oc2, od2, .func (dF "is_end" zdC kV2 dc2 pm2 an2 cd2 ct2), sl2⟩) (c2 : codeIn K cd2 "is_end" = true) (k2 : keepIn K (.ref f2) = true)
 (a3 : nsIn K mainGlobals "is_span" = some (some (.ref f3))) (l3 : K.lookup f3 = some ⟨oc3, od3, .func (dF "is_span" zcU kV3 dc3 pm3 an3 cd3 ct3), sl3⟩) (c3 : codeIn K cd3 "is_span" = true) (k3 : keepIn K (.ref f3) = true)
 (a4 : nsIn K mainGlobals "span_shared" = some (some (.ref f4))) (l4 : K.lookup f4 = some ⟨oc4, od4, .func (dF "span_shared" zaS kV4 dc4 pm4 an4 cd4 ct4), sl4⟩) (c4 : codeIn K cd4 "span_shared" = true) (k4 : keepIn K (.ref f4) = true)
 (a5 : nsIn K mainGlobals "number_of" = some (some (.ref f5))) (l5 : K.lookup f5 = some ⟨oc5, od5, .func (dF "number_of" zb6 kV5 dc5 pm5 an5 cd5 ct5), sl5⟩) (c5 : codeIn K cd5 "number_of" = true) (k5 : keepIn K (.ref f5) = true)
 (a6 : nsIn K mainGlobals "is_field" = some (some (.ref f6))) (l6 : K.lookup f6 = some ⟨oc6, od6, .func (dF "is_field" zbS kV6 dc6 pm6 an6 cd6 ct6), sl6⟩) (c6 : codeIn K cd6 "is_field" = true) (k6 : keepIn K (.ref f6) = true)
 (a7 : nsIn K mainGlobals "is_wish_part" = some (some (.ref f7))) (l7 : K.lookup f7 = some ⟨oc7, od7, .func (dF "is_wish_part" zbg kV7 dc7 pm7 an7 cd7 ct7), sl7⟩) (c7 : codeIn K cd7 "is_wish_part" = true) (k7 : keepIn K (.ref f7) = true)
 (a8 : nsIn K mainGlobals "fields_ascend" = some (some (.ref f8))) (l8 : K.lookup f8 = some ⟨oc8, od8, .func (dF "fields_ascend" zaQ kV8 dc8 pm8 an8 cd8 ct8), sl8⟩) (c8 : codeIn K cd8 "fields_ascend" = true) (k8 : keepIn K (.ref f8) = true)
 (a9 : nsIn K mainGlobals "is_wish" = some (some (.ref f9))) (l9 : K.lookup f9 = some ⟨oc9, od9, .func (dF "is_wish" zck kV9 dc9 pm9 an9 cd9 ct9), sl9⟩) (c9 : codeIn K cd9 "is_wish" = true) (k9 : keepIn K (.ref f9) = true)
 (a10 : nsIn K mainGlobals "check_wish" = some (some (.ref f10))) (l10 : K.lookup f10 = some ⟨oc10, od10, .func (dF "check_wish" zbH kV10 dc10 pm10 an10 cd10 ct10), sl10⟩) (c10 : codeIn K cd10 "check_wish" = true) (k10 : keepIn K (.ref f10) = true)
 (a11 : nsIn K mainGlobals "are_wishes" = some (some (.ref f11))) (l11 : K.lookup f11 = some ⟨oc11, od11, .func (dF "are_wishes" zbj kV11 dc11 pm11 an11 cd11 ct11), sl11⟩) (c11 : codeIn K cd11 "are_wishes" = true) (k11 : keepIn K (.ref f11) = true)
 (a12 : nsIn K mainGlobals "check_wishes" = some (some (.ref f12))) (l12 : K.lookup f12 = some ⟨oc12, od12, .func (dF "check_wishes" zbh kV12 dc12 pm12 an12 cd12 ct12), sl12⟩) (c12 : codeIn K cd12 "check_wishes" = true) (k12 : keepIn K (.ref f12) = true)
 (a13 : nsIn K mainGlobals "spans_by_field" = some (some (.ref f13))) (l13 : K.lookup f13 = some ⟨oc13, od13, .func (dF "spans_by_field" zaO kV13 dc13 pm13 an13 cd13 ct13), sl13⟩) (c13 : codeIn K cd13 "spans_by_field" = true) (k13 : keepIn K (.ref f13) = true)
 (a14 : nsIn K mainGlobals "wish_shared" = some (some (.ref f14))) (l14 : K.lookup f14 = some ⟨oc14, od14, .func (dF "wish_shared" za6 kV14 dc14 pm14 an14 cd14 ct14), sl14⟩) (c14 : codeIn K cd14 "wish_shared" = true) (k14 : keepIn K (.ref f14) = true)
 (a15 : nsIn K mainGlobals "spans_beside" = some (some (.ref f15))) (l15 : K.lookup f15 = some ⟨oc15, od15, .func (dF "spans_beside" zbf kV15 dc15 pm15 an15 cd15 ct15), sl15⟩) (c15 : codeIn K cd15 "spans_beside" = true) (k15 : keepIn K (.ref f15) = true)
 (a16 : nsIn K mainGlobals "parts_beside_one" = some (some (.ref f16))) (l16 : K.lookup f16 = some ⟨oc16, od16, .func (dF "parts_beside_one" zaP kV16 dc16 pm16 an16 cd16 ct16), sl16⟩) (c16 : codeIn K cd16 "parts_beside_one" = true) (k16 : keepIn K (.ref f16) = true)
 (a17 : nsIn K mainGlobals "parts_beside" = some (some (.ref f17))) (l17 : K.lookup f17 = some ⟨oc17, od17, .func (dF "parts_beside" zaV kV17 dc17 pm17 an17 cd17 ct17), sl17⟩) (c17 : codeIn K cd17 "parts_beside" = true) (k17 : keepIn K (.ref f17) = true)
 (a18 : nsIn K mainGlobals "piece_beside" = some (some (.ref f18))) (l18 : K.lookup f18 = some ⟨oc18, od18, .func (dF "piece_beside" zaU kV18 dc18 pm18 an18 cd18 ct18), sl18⟩) (c18 : codeIn K cd18 "piece_beside" = true) (k18 : keepIn K (.ref f18) = true)
 (a19 : nsIn K mainGlobals "fields_of" = some (some (.ref f19))) (l19 : K.lookup f19 = some ⟨oc19, od19, .func (dF "fields_of" zbw kV19 dc19 pm19 an19 cd19 ct19), sl19⟩) (c19 : codeIn K cd19 "fields_of" = true) (k19 : keepIn K (.ref f19) = true)
 (a20 : nsIn K mainGlobals "check_few" = some (some (.ref f20))) (l20 : K.lookup f20 = some ⟨oc20, od20, .func (dF "check_few" zb9 kV20 dc20 pm20 an20 cd20 ct20), sl20⟩) (c20 : codeIn K cd20 "check_few" = true) (k20 : keepIn K (.ref f20) = true)
 (a21 : nsIn K mainGlobals "uncovered_piece" = some (some (.ref f21))) (l21 : K.lookup f21 = some ⟨oc21, od21, .func (dF "uncovered_piece" zaR kV21 dc21 pm21 an21 cd21 ct21), sl21⟩) (c21 : codeIn K cd21 "uncovered_piece" = true) (k21 : keepIn K (.ref f21) = true)
 (a22 : nsIn K mainGlobals "_law_well" = some (some (.ref f22))) (l22 : K.lookup f22 = some ⟨oc22, od22, .func (dF "_law_well" zbt kV22 dc22 pm22 an22 cd22 ct22), sl22⟩) (c22 : codeIn K cd22 "_law_well" = true) (k22 : keepIn K (.ref f22) = true)
 (a23 : nsIn K mainGlobals "_law_take" = some (some (.ref f23))) (l23 : K.lookup f23 = some ⟨oc23, od23, .func (dF "_law_take" zcv kV23 dc23 pm23 an23 cd23 ct23), sl23⟩) (c23 : codeIn K cd23 "_law_take" = true) (k23 : keepIn K (.ref f23) = true)
 (a24 : nsIn K mainGlobals "_law_name" = some (some (.ref f24))) (l24 : K.lookup f24 = some ⟨oc24, od24, .func (dF "_law_name" zbQ kV24 dc24 pm24 an24 cd24 ct24), sl24⟩) (c24 : codeIn K cd24 "_law_name" = true) (k24 : keepIn K (.ref f24) = true)
 (a25 : nsIn K mainGlobals "_law_fields" = some (some (.ref f25))) (l25 : K.lookup f25 = some ⟨oc25, od25, .func (dF "_law_fields" zbG kV25 dc25 pm25 an25 cd25 ct25), sl25⟩) (c25 : codeIn K cd25 "_law_fields" = true) (k25 : keepIn K (.ref f25) = true)
 (a26 : nsIn K mainGlobals "_law_base" = some (some (.ref f26))) (l26 : K.lookup f26 = some ⟨oc26, od26, .func (dF "_law_base" zcy kV26 dc26 pm26 an26 cd26 ct26), sl26⟩) (c26 : codeIn K cd26 "_law_base" = true) (k26 : keepIn K (.ref f26) = true)
 (a27 : nsIn K mainGlobals "_law_grid" = some (some (.ref f27))) (l27 : K.lookup f27 = some ⟨oc27, od27, .func (dF "_law_grid" zcx kV27 dc27 pm27 an27 cd27 ct27), sl27⟩) (c27 : codeIn K cd27 "_law_grid" = true) (k27 : keepIn K (.ref f27) = true)
 (a28 : nsIn K mainGlobals "_law_span" = some (some (.ref f28))) (l28 : K.lookup f28 = some ⟨oc28, od28, .func (dF "_law_span" zcw kV28 dc28 pm28 an28 cd28 ct28), sl28⟩) (c28 : codeIn K cd28 "_law_span" = true) (k28 : keepIn K (.ref f28) = true)
 (a29 : nsIn K mainGlobals "_law_wish" = some (some (.ref f29))) (l29 : K.lookup f29 = some ⟨oc29, od29, .func (dF "_law_wish" zcu kV29 dc29 pm29 an29 cd29 ct29), sl29⟩) (c29 : codeIn K cd29 "_law_wish" = true) (k29 : keepIn K (.ref f29) = true)
 (a30 : nsIn K mainGlobals "_law_wishes" = some (some (.ref f30))) (l30 : K.lookup f30 = some ⟨oc30, od30, .func (dF "_law_wishes" zbF kV30 dc30 pm30 an30 cd30 ct30), sl30⟩) (c30 : codeIn K cd30 "_law_wishes" = true) (k30 : keepIn K (.ref f30) = true)
 (a31 : nsIn K mainGlobals "_law_whole" = some (some (.ref f31))) (l31 : K.lookup f31 = some ⟨oc31, od31, .func (dF "_law_whole" zb7 kV31 dc31 pm31 an31 cd31 ct31), sl31⟩) (c31 : codeIn K cd31 "_law_whole" = true) (k31 : keepIn K (.ref f31) = true)
 (a32 : nsIn K mainGlobals "_law_wants" = some (some (.ref f32))) (l32 : K.lookup f32 = some ⟨oc32, od32, .func (dF "_law_wants" zb8 kV32 dc32 pm32 an32 cd32 ct32), sl32⟩) (c32 : codeIn K cd32 "_law_wants" = true) (k32 : keepIn K (.ref f32) = true)
 (a33 : nsIn K mainGlobals "_law_is_piece" = some (some (.ref f33))) (l33 : K.lookup f33 = some ⟨oc33, od33, .func (dF "_law_is_piece" zaW kV33 dc33 pm33 an33 cd33 ct33), sl33⟩) (c33 : codeIn K cd33 "_law_is_piece" = true) (k33 : keepIn K (.ref f33) = true)
 (a34 : nsIn K mainGlobals "_law_points" = some (some (.ref f34))) (l34 : K.lookup f34 = some ⟨oc34, od34, .func (dF "_law_points" za3 kV34 dc34 pm34 an34 cd34 ct34), sl34⟩) (c34 : codeIn K cd34 "_law_points" = true) (k34 : keepIn K (.ref f34) = true)
 (a35 : nsIn K mainGlobals "_law_alike" = some (some (.ref f35))) (l35 : K.lookup f35 = some ⟨oc35, od35, .func (dF "_law_alike" zbv kV35 dc35 pm35 an35 cd35 ct35), sl35⟩) (c35 : codeIn K cd35 "_law_alike" = true) (k35 : keepIn K (.ref f35) = true)
 (a36 : nsIn K mainGlobals "_law_free" = some (some (.ref f36))) (l36 : K.lookup f36 = some ⟨oc36, od36, .func (dF "_law_free" zbR kV36 dc36 pm36 an36 cd36 ct36), sl36⟩) (c36 : codeIn K cd36 "_law_free" = true) (k36 : keepIn K (.ref f36) = true)
 (a37 : nsIn K mainGlobals "law" = some (some (.ref f37))) (l37 : K.lookup f37 = some ⟨oc37, od37, .func (dF "law" zfq kV37 dc37 pm37 an37 cd37 ct37), sl37⟩) (c37 : codeIn K cd37 "law" = true) (k37 : keepIn K (.ref f37) = true)
 {t_MOST_LETTERS : Tok} (e_MOST_LETTERS : nsIn K mainGlobals "MOST_LETTERS" = some (some (.int 8 t_MOST_LETTERS)))
 {t_MOST_WISHES : Tok} (e_MOST_WISHES : nsIn K mainGlobals "MOST_WISHES" = some (some (.int 7 t_MOST_WISHES)))
 {t_MOST_FIELDS : Tok} (e_MOST_FIELDS : nsIn K mainGlobals "MOST_FIELDS" = some (some (.int 3 t_MOST_FIELDS)))
 (z_len : nsIn K mainGlobals "len" = some none)
 (z_range : nsIn K mainGlobals "range" = some none)
 (z_isinstance : nsIn K mainGlobals "isinstance" = some none)
 (z_int : nsIn K mainGlobals "int" = some none)
 (z_bool : nsIn K mainGlobals "bool" = some none)
 (z_tuple : nsIn K mainGlobals "tuple" = some none)
 (z_list : nsIn K mainGlobals "list" = some none)
 (z_max : nsIn K mainGlobals "max" = some none)
 (z_min : nsIn K mainGlobals "min" = some none)
 (z_all : nsIn K mainGlobals "all" = some none)
 (z_zip : nsIn K mainGlobals "zip" = some none)
 (z_str : nsIn K mainGlobals "str" = some none)
 (z_dict : nsIn K mainGlobals "dict" = some none)
 (z_sorted : nsIn K mainGlobals "sorted" = some none)
 (z_set : nsIn K mainGlobals "set" = some none)
 (z_any : nsIn K mainGlobals "any" = some none)
 (z_sum : nsIn K mainGlobals "sum" = some none)
 (z_enumerate : nsIn K mainGlobals "enumerate" = some none)
 (z_repr : nsIn K mainGlobals "repr" = some none)
 (z_ord : nsIn K mainGlobals "ord" = some none)
 (z_chr : nsIn K mainGlobals "chr" = some none)
 (z_abs : nsIn K mainGlobals "abs" = some none)
 (z_reversed : nsIn K mainGlobals "reversed" = some none)
 : ∃ fd : FuncData, (∀ (s : Shared) (v : Value), BindsTo s fd ⟨[v], []⟩ [("script", v)]) ∧ ∀ base : Heap, K.In base → base.Ns mainGlobals mg → FnOk l.prog w K mg base CX0 12 fa fd ["script"] (zjE K) := by
 have e := hfa.symm.trans (PySem.W.mg_of X G a37)
 cases e
 have B : Bl mg := ⟨mg_none_of X G z_len, mg_none_of X G z_range, mg_none_of X G z_isinstance, mg_none_of X G z_int, mg_none_of X G z_bool, mg_none_of X G z_tuple, mg_none_of X G z_list, mg_none_of X G z_max, mg_none_of X G z_min, mg_none_of X G z_all, mg_none_of X G z_zip, mg_none_of X G z_str, mg_none_of X G z_dict, mg_none_of X G z_sorted, mg_none_of X G z_set, mg_none_of X G z_any, mg_none_of X G z_sum, mg_none_of X G z_enumerate, mg_none_of X G z_repr, mg_none_of X G z_ord, mg_none_of X G z_chr, mg_none_of X G z_abs, mg_none_of X G z_reversed⟩
 refine ⟨PySem.W.fnOf "law" "law" (zbB zfq) (zbp zfq) (zag zfq) .none kV37 dc37 pm37 an37 cd37 ct37, fun s v => .of_eq rfl, fun base _ _ => ?_⟩
 have CMOST_LETTERS := mg_of X G e_MOST_LETTERS
 have CMOST_WISHES := mg_of X G e_MOST_WISHES
 have CMOST_FIELDS := mg_of X G e_MOST_FIELDS
 have F1 := zaC (st := zcz) l1 c1 k1
 have b1 := bn1 (p0 := "thing") F1
 have G_is_whole : FnH l.prog w K mg base 1 "is_whole" ["thing"] (zde K) := ⟨_, _, zgG B CMOST_LETTERS CMOST_WISHES CMOST_FIELDS F1 , b1, k1, mg_of X G a1⟩
 have F2 := zaC (st := zdC) l2 c2 k2
 have b2 := bn1 (p0 := "thing") F2
 have G_is_end : FnH l.prog w K mg base 2 "is_end" ["thing"] (zkE K) := ⟨_, _, ziE B CMOST_LETTERS CMOST_WISHES CMOST_FIELDS F2 G_is_whole, b2, k2, mg_of X G a2⟩
 have F3 := zaC (st := zcU) l3 c3 k3
 have b3 := bn1 (p0 := "thing") F3
 have G_is_span : FnH l.prog w K mg base 3 "is_span" ["thing"] (zex K) := ⟨_, _, zhM B CMOST_LETTERS CMOST_WISHES CMOST_FIELDS F3 G_is_end, b3, k3, mg_of X G a3⟩
 have F4 := zaC (st := zaS) l4 c4 k4
 have b4 := bn2 (p0 := "one") (p1 := "other") F4
 have G_span_shared : FnH l.prog w K mg base 1 "span_shared" ["one", "other"] (zeu) := ⟨_, _, zec B CMOST_LETTERS CMOST_WISHES CMOST_FIELDS F4 , b4, k4, mg_of X G a4⟩
 have F5 := zaC (st := zb6) l5 c5 k5
 have b5 := bn1 (p0 := "span") F5
 have G_number_of : FnH l.prog w K mg base 1 "number_of" ["span"] (zgk) := ⟨_, _, zfE B CMOST_LETTERS CMOST_WISHES CMOST_FIELDS F5 , b5, k5, mg_of X G a5⟩
 have F6 := zaC (st := zbS) l6 c6 k6
 have b6 := bn1 (p0 := "thing") F6
 have G_is_field : FnH l.prog w K mg base 1 "is_field" ["thing"] (zgl) := ⟨_, _, zgH B CMOST_LETTERS CMOST_WISHES CMOST_FIELDS F6 , b6, k6, mg_of X G a6⟩
 have F7 := zaC (st := zbg) l7 c7 k7
 have b7 := bn1 (p0 := "thing") F7
 have G_is_wish_part : FnH l.prog w K mg base 4 "is_wish_part" ["thing"] (zdd) := ⟨_, _, zdZ B CMOST_LETTERS CMOST_WISHES CMOST_FIELDS F7 G_is_field G_is_span, b7, k7, mg_of X G a7⟩
 have F8 := zaC (st := zaQ) l8 c8 k8
 have b8 := bn1 (p0 := "parts") F8
 have G_fields_ascend : FnH l.prog w K mg base 1 "fields_ascend" ["parts"] (zez) := ⟨_, _, zdz B CMOST_LETTERS CMOST_WISHES CMOST_FIELDS F8 , b8, k8, mg_of X G a8⟩
 have F9 := zaC (st := zck) l9 c9 k9
 have b9 := bn1 (p0 := "thing") F9
 have G_is_wish : FnH l.prog w K mg base 5 "is_wish" ["thing"] (zew) := ⟨_, _, zhL B CMOST_LETTERS CMOST_WISHES CMOST_FIELDS F9 G_fields_ascend G_is_wish_part, b9, k9, mg_of X G a9⟩
 have F10 := zaC (st := zbH) l10 c10 k10
 have b10 := bn1 (p0 := "thing") F10
 have G_check_wish : FnH l.prog w K mg base 6 "check_wish" ["thing"] (zdN) := ⟨_, _, zeU B CMOST_LETTERS CMOST_WISHES CMOST_FIELDS F10 G_is_wish, b10, k10, mg_of X G a10⟩
 have F11 := zaC (st := zbj) l11 c11 k11
 have b11 := bn1 (p0 := "thing") F11
 have G_are_wishes : FnH l.prog w K mg base 6 "are_wishes" ["thing"] (zgm) := ⟨_, _, zeV B CMOST_LETTERS CMOST_WISHES CMOST_FIELDS F11 G_is_wish, b11, k11, mg_of X G a11⟩
 have F12 := zaC (st := zbh) l12 c12 k12
 have b12 := bn1 (p0 := "thing") F12
 have G_check_wishes : FnH l.prog w K mg base 7 "check_wishes" ["thing"] (zey) := ⟨_, _, zd0 B CMOST_LETTERS CMOST_WISHES CMOST_FIELDS F12 G_are_wishes, b12, k12, mg_of X G a12⟩
 have F13 := zaC (st := zaO) l13 c13 k13
 have b13 := bn1 (p0 := "wish") F13
 have G_spans_by_field : FnH l.prog w K mg base 1 "spans_by_field" ["wish"] (zdf) := ⟨_, _, zdl B CMOST_LETTERS CMOST_WISHES CMOST_FIELDS F13 , b13, k13, mg_of X G a13⟩
 have F14 := zaC (st := za6) l14 c14 k14
 have b14 := bn2 (p0 := "one") (p1 := "other") F14
 have G_wish_shared : FnH l.prog w K mg base 2 "wish_shared" ["one", "other"] (zig) := ⟨_, _, zeb B CMOST_LETTERS CMOST_WISHES CMOST_FIELDS F14 G_spans_by_field G_span_shared, b14, k14, mg_of X G a14⟩
 have F15 := zaC (st := zbf) l15 c15 k15
 have b15 := bn2 (p0 := "span") (p1 := "inner") F15
 have G_spans_beside : FnH l.prog w K mg base 1 "spans_beside" ["span", "inner"] (zb4) := ⟨_, _, zdV B CMOST_LETTERS CMOST_WISHES CMOST_FIELDS F15 , b15, k15, mg_of X G a15⟩
 have F16 := zaC (st := zaP) l16 c16 k16
 have b16 := bn2 (p0 := "wish") (p1 := "other") F16
 have G_parts_beside_one : FnH l.prog w K mg base 3 "parts_beside_one" ["wish", "other"] (zdg) := ⟨_, _, zcN B CMOST_LETTERS CMOST_WISHES CMOST_FIELDS F16 G_wish_shared G_spans_beside, b16, k16, mg_of X G a16⟩
 have F17 := zaC (st := zaV) l17 c17 k17
 have b17 := bn2 (p0 := "wish") (p1 := "others") F17
 have G_parts_beside : FnH l.prog w K mg base 4 "parts_beside" ["wish", "others"] (zgj) := ⟨_, _, zdX B CMOST_LETTERS CMOST_WISHES CMOST_FIELDS F17 G_parts_beside_one, b17, k17, mg_of X G a17⟩
 have F18 := zaC (st := zaU) l18 c18 k18
 have b18 := bn2 (p0 := "wish") (p1 := "others") F18
 have G_piece_beside : FnH l.prog w K mg base 5 "piece_beside" ["wish", "others"] (zb5) := ⟨_, _, zdW B CMOST_LETTERS CMOST_WISHES CMOST_FIELDS F18 G_parts_beside G_number_of, b18, k18, mg_of X G a18⟩
 have F19 := zaC (st := zbw) l19 c19 k19
 have b19 := bn1 (p0 := "wishes") F19
 have G_fields_of : FnH l.prog w K mg base 1 "fields_of" ["wishes"] (zdh) := ⟨_, _, zfI B CMOST_LETTERS CMOST_WISHES CMOST_FIELDS F19 , b19, k19, mg_of X G a19⟩
 have F20 := zaC (st := zb9) l20 c20 k20
 have b20 := bn2 (p0 := "wishes") (p1 := "fields") F20
 have G_check_few : FnH l.prog w K mg base 1 "check_few" ["wishes", "fields"] (zkD) := ⟨_, _, zfJ B CMOST_LETTERS CMOST_WISHES CMOST_FIELDS F20 , b20, k20, mg_of X G a20⟩
 have F21 := zaC (st := zaR) l21 c21 k21
 have b21 := bn2 (p0 := "wish") (p1 := "wishes") F21
 have G_uncovered_piece : FnH l.prog w K mg base 8 "uncovered_piece" ["wish", "wishes"] (zcL) := ⟨_, _, zc4 B CMOST_LETTERS CMOST_WISHES CMOST_FIELDS F21 G_check_wish G_check_wishes G_check_few G_piece_beside G_fields_of, b21, k21, mg_of X G a21⟩
 have F22 := zaC (st := zbt) l22 c22 k22
 have b22 := bn1 (p0 := "script") F22
 have G_law_well : FnH l.prog w K mg base 1 "_law_well" ["script"] (zid K) := ⟨_, _, zgz B CMOST_LETTERS CMOST_WISHES CMOST_FIELDS F22 , b22, k22, mg_of X G a22⟩
 have F23 := zaC (st := zcv) l23 c23 k23
 have b23 := bn2 (p0 := "well") (p1 := "many") F23
 have G_law_take : FnH l.prog w K mg base 1 "_law_take" ["well", "many"] (zie) := ⟨_, _, zgA B CMOST_LETTERS CMOST_WISHES CMOST_FIELDS F23 , b23, k23, mg_of X G a23⟩
 have F24 := zaC (st := zbQ) l24 c24 k24
 have b24 := bn2 (p0 := "well") (p1 := "most") F24
 have G_law_name : FnH l.prog w K mg base 2 "_law_name" ["well", "most"] (zif) := ⟨_, _, zgC B CMOST_LETTERS CMOST_WISHES CMOST_FIELDS F24 G_law_take, b24, k24, mg_of X G a24⟩
 have F25 := zaC (st := zbG) l25 c25 k25
 have b25 := bn2 (p0 := "well") (p1 := "many") F25
 have G_law_fields : FnH l.prog w K mg base 3 "_law_fields" ["well", "many"] (zdM) := ⟨_, _, zeT B CMOST_LETTERS CMOST_WISHES CMOST_FIELDS F25 G_law_name G_law_take, b25, k25, mg_of X G a25⟩
 have F26 := zaC (st := zcy) l26 c26 k26
 have b26 := bn1 (p0 := "well") F26
 have G_law_base : FnH l.prog w K mg base 2 "_law_base" ["well"] (zik) := ⟨_, _, zgF B CMOST_LETTERS CMOST_WISHES CMOST_FIELDS F26 G_law_take, b26, k26, mg_of X G a26⟩
 have F27 := zaC (st := zcx) l27 c27 k27
 have b27 := bn1 (p0 := "well") F27
 have G_law_grid : FnH l.prog w K mg base 3 "_law_grid" ["well"] (zii) := ⟨_, _, zgD B CMOST_LETTERS CMOST_WISHES CMOST_FIELDS F27 G_law_take G_law_base, b27, k27, mg_of X G a27⟩
 have F28 := zaC (st := zcw) l28 c28 k28
 have b28 := bn3 (p0 := "well") (p1 := "grid") (p2 := "wide") F28
 have G_law_span : FnH l.prog w K mg base 2 "_law_span" ["well", "grid", "wide"] (zgi) := ⟨_, _, zgB B CMOST_LETTERS CMOST_WISHES CMOST_FIELDS F28 G_law_take, b28, k28, mg_of X G a28⟩
 have F29 := zaC (st := zcu) l29 c29 k29
 have b29 := bn4 (p0 := "well") (p1 := "names") (p2 := "grid") (p3 := "wide") F29
 have G_law_wish : FnH l.prog w K mg base 3 "_law_wish" ["well", "names", "grid", "wide"] (zgg) := ⟨_, _, zgy B CMOST_LETTERS CMOST_WISHES CMOST_FIELDS F29 G_law_take G_law_span, b29, k29, mg_of X G a29⟩
 have F30 := zaC (st := zbF) l30 c30 k30
 have b30 := bn5 (p0 := "well") (p1 := "names") (p2 := "grid") (p3 := "wide") (p4 := "many") F30
 have G_law_wishes : FnH l.prog w K mg base 4 "_law_wishes" ["well", "names", "grid", "wide", "many"] (zdL) := ⟨_, _, zeR B CMOST_LETTERS CMOST_WISHES CMOST_FIELDS F30 G_law_take G_law_wish, b30, k30, mg_of X G a30⟩
 have F31 := zaC (st := zb7) l31 c31 k31
 have b31 := bn1 (p0 := "thing") F31
 have G_law_whole : FnH l.prog w K mg base 1 "_law_whole" ["thing"] (zde K) := ⟨_, _, zfF B CMOST_LETTERS CMOST_WISHES CMOST_FIELDS F31 , b31, k31, mg_of X G a31⟩
 have F32 := zaC (st := zb8) l32 c32 k32
 have b32 := bn2 (p0 := "wish") (p1 := "piece") F32
 have G_law_wants : FnH l.prog w K mg base 1 "_law_wants" ["wish", "piece"] (zgh) := ⟨_, _, zfG B CMOST_LETTERS CMOST_WISHES CMOST_FIELDS F32 , b32, k32, mg_of X G a32⟩
 have F33 := zaC (st := zaW) l33 c33 k33
 have b33 := bn1 (p0 := "thing") F33
 have G_law_is_piece : FnH l.prog w K mg base 2 "_law_is_piece" ["thing"] (zih) := ⟨_, _, zdY B CMOST_LETTERS CMOST_WISHES CMOST_FIELDS F33 G_law_whole, b33, k33, mg_of X G a33⟩
 have F34 := zaC (st := za3) l34 c34 k34
 have b34 := bn3 (p0 := "names") (p1 := "grid") (p2 := "wide") F34
 have G_law_points : FnH l.prog w K mg base 1 "_law_points" ["names", "grid", "wide"] (spPoints) := ⟨_, _, zeS B CMOST_LETTERS CMOST_WISHES CMOST_FIELDS F34 , b34, k34, mg_of X G a34⟩
 have F35 := zaC (st := zbv) l35 c35 k35
 have b35 := bn2 (p0 := "found") (p1 := "due") F35
 have G_law_alike : FnH l.prog w K mg base 11 "_law_alike" ["found", "due"] (zhc 9 zev) := ⟨_, _, zfH B CMOST_LETTERS CMOST_WISHES CMOST_FIELDS F35  (PySem.W.mg_of X G a35), b35, k35, mg_of X G a35⟩
 have F36 := zaC (st := zbR) l36 c36 k36
 have b36 := bn3 (p0 := "wish") (p1 := "wishes") (p2 := "piece") F36
 have G_law_free : FnH l.prog w K mg base 2 "_law_free" ["wish", "wishes", "piece"] (zij) := ⟨_, _, zgE B CMOST_LETTERS CMOST_WISHES CMOST_FIELDS F36 G_law_wants, b36, k36, mg_of X G a36⟩
 have F37 := zaC (st := zfq) l37 c37 k37
 exact zlw B CMOST_LETTERS CMOST_WISHES CMOST_FIELDS F37 G_law_well G_law_fields G_law_take G_law_grid G_law_wishes G_uncovered_piece G_law_is_piece G_law_free G_law_alike G_law_points
theorem walk {l : PySem.W.OpenLaw} {q : Program} {loose : List Str} {XP : (Str → Option Value) → Heap → Prop} {YP : World → Heap → Prop} {d : DefRec} {K : Params → PySem.W.Frag} (hn : l.most = some 63) (hdf : d.params.defaults = [])
 (hY : ∀ (w : World) (h : Heap), YP w h → (K w.params).In h)
 (F : ∀ (w : World) (mg : Str → Option Value) (fa : Addr) (h : Heap), (K w.params).In h → h.Ns mainGlobals mg → mg d.name = some (.ref fa) →
  ∃ fd : FuncData, (∀ (s : Shared) (u : Value), BindsTo s fd ⟨[u], []⟩ [("script", u)]) ∧ ∀ base : Heap, (K w.params).In base → base.Ns mainGlobals mg → FnOk l.prog w (K w.params) mg base CX0 12 fa fd ["script"] (zjE (K w.params))) :
 PySem.W.WalkO q loose XP YP l.row.toRowW d [] (fun f vs => PySem.call f vs) :=
 L2.walk_of (n := 63) (k := 12) (x := "script") (CX := fun _ => CX0) (sp := fun w => zjE (K w.params)) hn (by decide) hdf ⟨rfl, by decide, by decide, rfl⟩ hY F (fun _ _ a ns hl _ hS => ⟨a, ns, rfl, hS, hl, fun _ => rfl⟩) fun _ _ _ _ _ z => z
end K12
namespace PySem.W.Fast
def tw3043651680000898112 := 0
def tw5767422451265468512 := 0
def tw17266520877875464288 := 0
def tw17430628055145127200 := 0
def tw16075393040351216096 := 0
def tw16562052104786559584 := 0
def tw4252569427493838528 := 0
def tw13025579317527041153 := 0
def tw16116852111450763553 := 0
def tw16046662751838001665 := 0
def tw17231669616657248801 := 0
def tw7292485536379514625 := 0
def tw8618593881718634369 := 0
def tw16079472064655138850 := 0
def tw3719732533765156930 := 0
def tw4227270568981834946 := 0
def tw15146780803233175810 := 0
def tw4028468750464877090 := 0
def tw15163957112142406466 := 0
def tw13964238935420026690 := 0
def tw8624299241796396002 := 0
def tw11216574489444011043 := 0
def tw6619160549593934883 := 0
def tw2218908560932279715 := 0
def tw14227925714482800131 := 0
def tw6064706508331131427 := 0
def tw12678158810495094403 := 0
def tw13237374692307724259 := 0
def tw16831981298236175364 := 0
def tw13932655998330380388 := 0
def tw7138522945298849028 := 0
def tw6943546911410769188 := 0
def tw9421670801959020164 := 0
def tw18109829483628021540 := 0
def tw13402442777649733637 := 0
def tw15541536041607934021 := 0
def tw2958349223529537733 := 0
def tw16259928653008869861 := 0
def tw9887069262366547493 := 0
def tw4014410698764932677 := 0
def tw10487693971163154021 := 0
def tw10214430478489153157 := 0
def tw7415481967443642117 := 0
def tw13619394061241964293 := 0
def tw3653983438403934214 := 0
def tw10060174029409452326 := 0
def tw9363866700140212870 := 0
def tw18360087762831215334 := 0
def tw17302598084828664903 := 0
def tw14477029115052672231 := 0
def tw12289368760122283303 := 0
def tw4353528088566382919 := 0
def tw15225243222777110919 := 0
def tw5585559386370453063 := 0
def tw11393694749522427559 := 0
def tw4179102013745398792 := 0
def tw15542553571313424424 := 0
def tw12202558919534630984 := 0
def tw5294903435215271048 := 0
def tw2613896989670193320 := 0
def tw10180957245305781448 := 0
def tw4604818600736700680 := 0
def tw13371776576465589640 := 0
def tw16243617386878409128 := 0
def tw8315967351478395336 := 0
def tw6621519719580201416 := 0
def tw16890167647327274568 := 0
def tw8742203795185697416 := 0
def tw3893634040053288904 := 0
def tw5257638786180176041 := 0
def tw4683920671917202601 := 0
def tw9506839507574002889 := 0
def tw15225815296461345033 := 0
def tw13017208581858263529 := 0
def tw15960292228087525929 := 0
def tw13912330018435090089 := 0
def tw12153991032028302249 := 0
def tw6782096803411815401 := 0
def tw3716456025807374313 := 0
def tw13858118372475409738 := 0
def tw5081859562558331786 := 0
def tw1586301041679166346 := 0
def tw2322086024590992330 := 0
def tw16896131002872974282 := 0
def tw7887245181764179371 := 0
def tw14963278114746082763 := 0
def tw8505346763954777771 := 0
def tw10109948651715024587 := 0
def tw8572113348461301515 := 0
def tw16210862247434942315 := 0
def tw1014330811105260523 := 0
def tw17266479278115537068 := 0
def tw10940351258687861196 := 0
def tw16072478404573876876 := 0
def tw1726576111562410796 := 0
def tw1822272112144004141 := 0
def tw14616696757240394893 := 0
def tw16399597142227242157 := 0
def tw1748530327091141837 := 0
def tw4994357091462523149 := 0
def tw8770664887209552365 := 0
def tw12163247380666605101 := 0
def tw3364797791979214381 := 0
def tw6616957999757053549 := 0
def tw18040740521514173197 := 0
def tw11032820136450803629 := 0
def tw7634816446785277326 := 0
def tw3634629694245721518 := 0
def tw16312883050939533742 := 0
def tw11477471506425951854 := 0
def tw1871503357632096974 := 0
def tw3596786824050461422 := 0
def tw15892643090903831374 := 0
def tw7519346904086550478 := 0
def tw15120201870335545359 := 0
def tw4574890703033828463 := 0
def tw3414156652901867695 := 0
def tw2037888008690741519 := 0
def tw2041305011449023919 := 0
def tw2171353883171983855 := 0
def tw17080969167037587023 := 0
def tw18259186319866386095 := 0
def tw6004603034873644783 := 0
def tw12438471498460058543 := 0
def tw1274421170973563120 := 0
def tw18258367628513926736 := 0
def tw11469170314245749360 := 0
def tw9603253248445542096 := 0
def tw4759685284862352240 := 0
def tw1526530222635492272 := 0
def tw9730001610153191505 := 0
def tw12699918338168546417 := 0
def tw2667510944755148433 := 0
def tw11160878270515518161 := 0
def tw12293487610820055793 := 0
def tw9334317836603409201 := 0
def tw17744945128407818129 := 0
def tw13495873109455759858 := 0
def tw4365588432718949938 := 0
def tw11881210765818418738 := 0
def tw14321326044467817266 := 0
def tw11586607903746754643 := 0
def tw669326248882660595 := 0
def tw15893377722728102387 := 0
def tw5713482604120288947 := 0
def tw13655692108476643155 := 0
def tw39497793803892948 := 0
def tw16271260895555477908 := 0
def tw2154872035758204308 := 0
def tw17735943044918847988 := 0
def tw5979663010947441204 := 0
def tw16264106122524239476 := 0
def tw10207589033838294644 := 0
def tw10780534024531421908 := 0
def tw11842960087949211380 := 0
def tw10852602436995004533 := 0
def tw6030229915248829717 := 0
def tw6898946516516207029 := 0
def tw5885677283902397941 := 0
def tw13035507432432745526 := 0
def tw2529177132144645302 := 0
def tw14176699250589828310 := 0
def tw9785622396882549974 := 0
def tw4133766404205447510 := 0
def tw9873861698650150262 := 0
def tw16740209860930883990 := 0
def tw18160554953955482070 := 0
def tw8019228255667359190 := 0
def tw4608995661005815286 := 0
def tw13542778331159118326 := 0
def tw973373969954350774 := 0
def tw220964469424806614 := 0
def tw4548779140338222838 := 0
def tw3346956833992687414 := 0
def tw14040467582129921846 := 0
def tw18109200607255149558 := 0
def tw7882394867567455383 := 0
def tw2270478897639244023 := 0
def tw5421409516857651479 := 0
def tw3457898574954660183 := 0
def tw16704659083718074807 := 0
def tw5974308266675022327 := 0
def tw13680704779080480311 := 0
def tw14369288835453561527 := 0
def tw16938968561973551895 := 0
def tw3070557082085591959 := 0
def tw5091634309432147959 := 0
def tw11702268103461846040 := 0
def tw7460763559063531832 := 0
def tw17638185674361754040 := 0
def tw10359089574302782136 := 0
def tw14728868513749997240 := 0
def tw14737225810211781689 := 0
def tw5252768532185226585 := 0
def tw643465783683370425 := 0
def tw2334002769393290681 := 0
def tw9921952912204404186 := 0
def tw8094624210504366682 := 0
def tw1351159083113376538 := 0
def tw17204701362885015771 := 0
def tw4969345094922480891 := 0
def tw7482287140200575291 := 0
def tw14284916121765909915 := 0
def tw9802013858085022363 := 0
def tw4883762665688965819 := 0
def tw3733579935974531835 := 0
def tw12588615559312921339 := 0
def tw11984192547777226491 := 0
def tw1915188260315262747 := 0
def tw6261839079710424027 := 0
def tw11890368088844947612 := 0
def tw284665099890758908 := 0
def tw13196625318825173276 := 0
def tw5938106265250799196 := 0
def tw9454984222490829468 := 0
def tw9305045328036763644 := 0
def tw14236114918921256061 := 0
def tw5415576289209947613 := 0
def tw13216727478114702909 := 0
def tw9069286852072608541 := 0
def tw6108757013700946749 := 0
def tw6902543693785890781 := 0
def tw1290207486871516286 := 0
def tw6769749677025397982 := 0
def tw11079723614292025822 := 0
def tw11212174283395554846 := 0
def tw15287634624138753694 := 0
def tw16302507496533162750 := 0
def tw5947780749320325950 := 0
def tw11918243973563786367 := 0
def tw828530103263199743 := 0
def tw7920224213337229823 := 0
def tw14459907334153444959 := 0
def tw16270724483512787679 := 0
def tw10812211434198609695 := 0
def tw796742969487132543 := 0
def tw13572949306204922783 := 0
def tw18226168275192497151 := 0
def tw3864819671963756543 := 0
end PySem.W.Fast
open PySem PySem.W PyProof.Rows
set_option maxRecDepth 100000 in
set_option maxHeartbeats 0 in
theorem PySem.Challenge.cw_newsways_k12_covered_together_by_trial_holds : PySem.Challenge.rw_newsways_k12_covered_together_by_trial.Holds := by
 w_on; o_law; k_head; (case hw => w_witness2)
 k_fill
 refine K12.walk (l := PySem.Challenge.rw_newsways_k12_covered_together_by_trial) rfl rfl (fun w h Y => PySem.W.kIn_of Y) ?F
 case F =>
  intro w mg fa h KX G hmg
  refine' K12.all_mk KX G hmg ?a1 ?l1 ?c1 ?k1 ?a2 ?l2 ?c2 ?k2 ?a3 ?l3 ?c3 ?k3 ?a4 ?l4 ?c4 ?k4 ?a5 ?l5 ?c5 ?k5 ?a6 ?l6 ?c6 ?k6 ?a7 ?l7 ?c7 ?k7 ?a8 ?l8 ?c8 ?k8 ?a9 ?l9 ?c9 ?k9 ?a10 ?l10 ?c10 ?k10 ?a11 ?l11 ?c11 ?k11 ?a12 ?l12 ?c12 ?k12 ?a13 ?l13 ?c13 ?k13 ?a14 ?l14 ?c14 ?k14 ?a15 ?l15 ?c15 ?k15 ?a16 ?l16 ?c16 ?k16 ?a17 ?l17 ?c17 ?k17 ?a18 ?l18 ?c18 ?k18 ?a19 ?l19 ?c19 ?k19 ?a20 ?l20 ?c20 ?k20 ?a21 ?l21 ?c21 ?k21 ?a22 ?l22 ?c22 ?k22 ?a23 ?l23 ?c23 ?k23 ?a24 ?l24 ?c24 ?k24 ?a25 ?l25 ?c25 ?k25 ?a26 ?l26 ?c26 ?k26 ?a27 ?l27 ?c27 ?k27 ?a28 ?l28 ?c28 ?k28 ?a29 ?l29 ?c29 ?k29 ?a30 ?l30 ?c30 ?k30 ?a31 ?l31 ?c31 ?k31 ?a32 ?l32 ?c32 ?k32 ?a33 ?l33 ?c33 ?k33 ?a34 ?l34 ?c34 ?k34 ?a35 ?l35 ?c35 ?k35 ?a36 ?l36 ?c36 ?k36 ?a37 ?l37 ?c37 ?k37 ?e_MOST_LETTERS ?e_MOST_WISHES ?e_MOST_FIELDS  ?z_len ?z_range ?z_isinstance ?z_int ?z_bool ?z_tuple ?z_list ?z_max ?z_min ?z_all ?z_zip ?z_str ?z_dict ?z_sorted ?z_set ?z_any ?z_sum ?z_enumerate ?z_repr ?z_ord ?z_chr ?z_abs ?z_reversed
  (case a1 => k_is); (case l1 => k_is); (case c1 => k_is); (case k1 => k_is)
  (case a2 => k_is); (case l2 => k_is); (case c2 => k_is); (case k2 => k_is)
  (case a3 => k_is); (case l3 => k_is); (case c3 => k_is); (case k3 => k_is)
  (case a4 => k_is); (case l4 => k_is); (case c4 => k_is); (case k4 => k_is)
  (case a5 => k_is); (case l5 => k_is); (case c5 => k_is); (case k5 => k_is)
  (case a6 => k_is); (case l6 => k_is); (case c6 => k_is); (case k6 => k_is)
  (case a7 => k_is); (case l7 => k_is); (case c7 => k_is); (case k7 => k_is)
  (case a8 => k_is); (case l8 => k_is); (case c8 => k_is); (case k8 => k_is)
  (case a9 => k_is); (case l9 => k_is); (case c9 => k_is); (case k9 => k_is)
  (case a10 => k_is); (case l10 => k_is); (case c10 => k_is); (case k10 => k_is)
  (case a11 => k_is); (case l11 => k_is); (case c11 => k_is); (case k11 => k_is)
  (case a12 => k_is); (case l12 => k_is); (case c12 => k_is); (case k12 => k_is)
  (case a13 => k_is); (case l13 => k_is); (case c13 => k_is); (case k13 => k_is)
  (case a14 => k_is); (case l14 => k_is); (case c14 => k_is); (case k14 => k_is)
  (case a15 => k_is); (case l15 => k_is); (case c15 => k_is); (case k15 => k_is)
  (case a16 => k_is); (case l16 => k_is); (case c16 => k_is); (case k16 => k_is)
  (case a17 => k_is); (case l17 => k_is); (case c17 => k_is); (case k17 => k_is)
  (case a18 => k_is); (case l18 => k_is); (case c18 => k_is); (case k18 => k_is)
  (case a19 => k_is); (case l19 => k_is); (case c19 => k_is); (case k19 => k_is)
  (case a20 => k_is); (case l20 => k_is); (case c20 => k_is); (case k20 => k_is)
  (case a21 => k_is); (case l21 => k_is); (case c21 => k_is); (case k21 => k_is)
  (case a22 => k_is); (case l22 => k_is); (case c22 => k_is); (case k22 => k_is)
  (case a23 => k_is); (case l23 => k_is); (case c23 => k_is); (case k23 => k_is)
  (case a24 => k_is); (case l24 => k_is); (case c24 => k_is); (case k24 => k_is)
  (case a25 => k_is); (case l25 => k_is); (case c25 => k_is); (case k25 => k_is)
  (case a26 => k_is); (case l26 => k_is); (case c26 => k_is); (case k26 => k_is)
  (case a27 => k_is); (case l27 => k_is); (case c27 => k_is); (case k27 => k_is)
  (case a28 => k_is); (case l28 => k_is); (case c28 => k_is); (case k28 => k_is)
  (case a29 => k_is); (case l29 => k_is); (case c29 => k_is); (case k29 => k_is)
  (case a30 => k_is); (case l30 => k_is); (case c30 => k_is); (case k30 => k_is)
  (case a31 => k_is); (case l31 => k_is); (case c31 => k_is); (case k31 => k_is)
  (case a32 => k_is); (case l32 => k_is); (case c32 => k_is); (case k32 => k_is)
  (case a33 => k_is); (case l33 => k_is); (case c33 => k_is); (case k33 => k_is)
  (case a34 => k_is); (case l34 => k_is); (case c34 => k_is); (case k34 => k_is)
  (case a35 => k_is); (case l35 => k_is); (case c35 => k_is); (case k35 => k_is)
  (case a36 => k_is); (case l36 => k_is); (case c36 => k_is); (case k36 => k_is)
  (case a37 => k_is); (case l37 => k_is); (case c37 => k_is); (case k37 => k_is)
  (case e_MOST_LETTERS => k_is); (case e_MOST_WISHES => k_is); (case e_MOST_FIELDS => k_is)
  (case z_len => k_is); (case z_range => k_is); (case z_isinstance => k_is); (case z_int => k_is); (case z_bool => k_is); (case z_tuple => k_is); (case z_list => k_is); (case z_max => k_is); (case z_min => k_is); (case z_all => k_is); (case z_zip => k_is); (case z_str => k_is); (case z_dict => k_is); (case z_sorted => k_is); (case z_set => k_is); (case z_any => k_is); (case z_sum => k_is); (case z_enumerate => k_is); (case z_repr => k_is); (case z_ord => k_is); (case z_chr => k_is); (case z_abs => k_is); (case z_reversed => k_is)
