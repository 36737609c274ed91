import PyProof.Rows.All
import Wide.All
import OpenK.AllK
import Wide.FinOn
import Lean
import PyProof.EqAt
import PyProof.EqKinds
import PyProof.TupleCall
import PyProof.NeKinds
import KE.IntBitsLaws
import PyProof.StationsW
import PyProof.RulesAs
import OpenK.KRaise
import PyProof.ExcInit
import PyProof.ExcBaseAll.ValueError
import PyProof.PassesOwn
import PyProof.NsDelKeeps
import PyProof.Rows.Catch
import PyProof.FString
import PyProof.Rows.FStr
import PyProof.ExcArgs
import PyProof.ExcAttrAll.ValueError
import PyProof.ExcStr
import PyProof.ExcStrCall
import PyProof.ExcStrAll.ValueError
import PyProof.StrWalks
import PyProof.FString5
import PyProof.ConsumeWalk
import PyProof.DictCompW
import PyProof.ZipIter
import PyProof.EnumMake
import PyProof.Rows.SetFrom
import KE.KRevSl
import PyProof.FitsBits
import PyProof.Rows.SortWalk
import PyProof.ListRange
import PyProof.ReprRoads
import PyProof.ReprText
import PyProof.CallFns
import KE.KEqDict
import PyProof.AutoListH
import PyProof.AttrMissHeap
import PyProof.ListNew
import PyProof.DictUpdate
import PyProof.Rows.SortStr
import PyProof.StrBlockL
import PyProof.JoinWalk
import PyProof.Rows.StrMeet
import PyProof.DictWalks
import PyProof.SliceStr2
import PyProof.StrOps2
import PyProof.Rows.StrMadeLen
import PyProof.Rows.StrNews2
import KE.KIntText
import PyProof.StrLawsIn
import PySem.Challenge.RW_newsways_k78_wishes_and_pieces_written
set_option Elab.async false
set_option linter.all false
set_option maxRecDepth 100000
namespace L2
open PySem PySem.Spec PyProof.Rows
abbrev Key := Sum Int Str
def zhP : Key → Value → Bool
 | .inl k, v => Value.isInt k v
 | .inr x, v => Value.isStrOf x v
def keyH (w : World) : Key → Int
 | .inl k => hashInt k
 | .inr x => hashStr w x
theorem zaK : ∀ {k : Key} {v : Value}, zhP k v = true → (∃ i t, k = Sum.inl i ∧ v = Value.int i t) ∨ (∃ x t, k = Sum.inr x ∧ v = Value.str x t)
 | .inl i, v, h => by
  obtain ⟨t, e⟩ := Value.isInt_shape (k := i) (v := v) h
  exact .inl ⟨i, t, rfl, e⟩
 | .inr x, v, h => by
  obtain ⟨t, e⟩ := Value.isStrOf_shape (x := x) (v := v) h
  exact .inr ⟨x, t, rfl, e⟩
theorem ziS (i : Int) (t : Tok) : zhP (.inl i) (.int i t) = true := by simp [zhP, Value.isInt]
theorem ziR (x : Str) (t : Tok) : zhP (.inr x) (.str x t) = true := by simp [zhP, Value.isStrOf]
theorem zlK (a b : Int) : decide ((Sum.inl a : Key) = Sum.inl b) = (a == b) := by
 by_cases e : a = b
 · subst e; simp
 · have h : ¬ (Sum.inl a : Key) = Sum.inl b := fun q => e (Sum.inl.inj q)
   rw [decide_eq_false h]
   exact (beq_eq_false_iff_ne.mpr e).symm
theorem zlH (a b : Str) : decide ((Sum.inr a : Key) = Sum.inr b) = decide (a = b) := by
 by_cases e : a = b
 · subst e; simp
 · have h : ¬ (Sum.inr a : Key) = Sum.inr b := fun q => e (Sum.inr.inj q)
   rw [decide_eq_false h, decide_eq_false e]
theorem zlJ (a : Int) (b : Str) : decide ((Sum.inl a : Key) = Sum.inr b) = false := decide_eq_false (fun q => nomatch q)
theorem zlI (a : Str) (b : Int) : decide ((Sum.inr a : Key) = Sum.inl b) = false := decide_eq_false (fun q => nomatch q)
def za1 (prog : Program) (w : World) : PySem.KeyKind prog w Key where
 is := zhP
 hash := keyH w
 inj := fun v a b ha hb => by
  rcases zaK ha with ⟨i, t, rfl, rfl⟩ | ⟨x, t, rfl, rfl⟩
  · rcases zaK hb with ⟨j, u, rfl, e⟩ | ⟨y, u, rfl, e⟩
    · injection e with e1 _; rw [e1]
    · exact nomatch e
  · rcases zaK hb with ⟨j, u, rfl, e⟩ | ⟨y, u, rfl, e⟩
    · exact nomatch e
    · injection e with e1 _; rw [e1]
 byValue := fun k v h => by
  rcases zaK h with ⟨i, t, rfl, rfl⟩ | ⟨x, t, rfl, rfl⟩ <;> rfl
 pyHash := fun hv h => by
  rcases zaK hv with ⟨i, t, rfl, rfl⟩ | ⟨x, t, rfl, rfl⟩
  · exact wpAny_pyHash_int h
  · exact wpAny_pyHash_str h
 eqBool := fun hu hv h => by
  rcases zaK hu with ⟨i, t, rfl, rfl⟩ | ⟨x, t, rfl, rfl⟩
  · rcases zaK hv with ⟨j, u, rfl, rfl⟩ | ⟨y, u, rfl, rfl⟩
    · rw [zlK] at h; exact wpAny_eqBool_int h
    · rw [zlJ] at h; exact SeqAt.EqAt.int_str i t y u _ _ _ _ h
  · rcases zaK hv with ⟨j, u, rfl, rfl⟩ | ⟨y, u, rfl, rfl⟩
    · rw [zlI] at h; exact SeqAt.EqAt.str_int x t j u _ _ _ _ h
    · rw [zlH] at h; exact wpAny_eqBool_str h
 «strs» := fun k x t v h => by
  rcases zaK h with ⟨i, u, rfl, e⟩ | ⟨y, u, rfl, e⟩
  · exact nomatch e
  · injection e with e1 _
    subst e1
    cases v <;> rfl
theorem zgK (prog : Program) (w : World) (i : Int) (t : Tok) : (za1 prog w).is (.inl i) (.int i t) = true := ziS i t
theorem zgJ (prog : Program) (w : World) (x : Str) (t : Tok) : (za1 prog w).is (.inr x) (.str x t) = true := ziR x t
inductive V where
 | non | bl (b : Bool) | int (i : Int) | str (x : Str) | byt (b : Array UInt8) | flt (b : UInt64) | ref (a : Addr) | ty (n : String)
 deriving DecidableEq
def RelV : V → Value → Prop
 | .non, u => u = Value.none
 | .bl b, u => u = Value.bool b
 | .int i, u => ∃ t, u = Value.int i t
 | .str x, u => ∃ t, u = Value.str x t
 | .byt b, u => ∃ t, u = Value.bytes b t
 | .flt b, u => ∃ t, u = Value.float b t
 | .ref a, u => u = Value.ref a
 | .ty n, u => u = Value.type n
abbrev Vals : List V → List Value → Prop := Paired RelV
theorem Vals.length {xs : List V} {us : List Value} (r : Vals xs us) : xs.length = us.length := Paired.length r
theorem Vals.get : ∀ {xs : List V} {us : List Value} {i : Nat} {x : V}, Vals xs us → xs[i]? = some x → ∃ u, us[i]? = some u ∧ RelV x u
 | _, _, _, _, .nil, e => by simp at e
 | _, _, 0, _, .cons r _, e => by simp at e; subst e; exact ⟨_, rfl, r⟩
 | _, _, i + 1, x, .cons _ t, e => by
  obtain ⟨u, h1, h2⟩ := Vals.get (i := i) (x := x) t (by simpa using e)
  exact ⟨u, by simpa using h1, h2⟩
theorem Vals.set {x : V} {u : Value} (r : RelV x u) : ∀ {xs : List V} {us : List Value} (i : Nat), Vals xs us → Vals (xs.set i x) (us.set i u)
 | _, _, _, .nil => .nil
 | _, _, 0, .cons _ t => .cons r t
 | _, _, i + 1, .cons q t => .cons q (Vals.set r i t)
theorem Vals.append : ∀ {xs ys : List V} {us ws : List Value}, Vals xs us → Vals ys ws → Vals (xs ++ ys) (us ++ ws)
 | _, _, _, _, .nil, s => s
 | _, _, _, _, .cons r t, s => .cons r (Vals.append t s)
theorem Vals.take : ∀ {xs : List V} {us : List Value} (n : Nat), Vals xs us → Vals (xs.take n) (us.take n)
 | _, _, 0, _ => .nil
 | _, _, _ + 1, .nil => .nil
 | _, _, n + 1, .cons r t => .cons r (Vals.take n t)
theorem Vals.drop : ∀ {xs : List V} {us : List Value} (n : Nat), Vals xs us → Vals (xs.drop n) (us.drop n)
 | _, _, 0, r => r
 | _, _, _ + 1, .nil => .nil
 | _, _, n + 1, .cons _ t => Vals.drop n t
def RelO : Option V → Option Value → Prop
 | some v, some u => RelV v u
 | none, none => True
 | _, _ => False
def KV {κ : Type} : List (κ × V) → List (κ × Value) → Prop := Paired fun (p : κ × V) (q : κ × Value) => p.1 = q.1 ∧ RelV p.2 q.2
def kV : Key → V
 | .inl i => .int i
 | .inr x => .str x
inductive HO where
 | lst (xs : List V)
 | tup (xs : List V)
 | dK (kvs : List (Key × V)) | dT (kvs : List (List Key × V))
 | set (S : Int → Bool) (n : Nat)
 | ins (C dx : Addr) (fs : List (Str × V))
 | own (x : Addr)
 | xd (fs : List (Str × V))
 | met (f x : Addr)
 | rng (lo hi : Int)
 | frz (o : Obj) (u : HO)
 | tbl (ps : Array Value)
 | ext (φ : Heap → Prop)
def IsTupP (h : Heap) (a : Addr) (items : Array Value) : Prop := ∃ o, h.get? a = some o ∧ o.cls = .type "tuple" ∧ o.dict = none ∧ ∃ n, o.data = .seq items n
theorem IsTupP.tup {h : Heap} {a : Addr} {items : Array Value} (x : IsTupP h a items) : IsTup h a items := let ⟨o, h1, h2, _, h3⟩ := x; ⟨o, h1, h2, h3⟩
theorem IsTupP.new (h : Heap) (items : Array Value) : IsTupP (h.push { cls := .type "tuple", data := .seq items }) h.objs.size items := ⟨_, Heap.get?_push_size _ rfl, rfl, rfl, _, rfl⟩
abbrev Hp := Addr → Option HO
def upd (H : Hp) (a : Addr) (o : HO) : Hp := fun b => if b = a then some o else H b
theorem zab {H : Hp} {a : Addr} {o : HO} : upd H a o a = some o := by unfold upd; rw [if_pos rfl]
theorem zak {H : Hp} {a b : Addr} {o : HO} (h : b ≠ a) : upd H a o b = H b := by unfold upd; rw [if_neg h]
theorem zhH {H : Hp} {a b : Addr} {o u : HO} (h : H a = some o) (h' : H b = some u) (d : o ≠ u) : a ≠ b := by
 intro e; subst e; rw [h] at h'; exact d (Option.some.inj h')
theorem zar {H : Hp} {a b : Addr} {o : HO} (h : H a = some o) (h' : H b = none) : a ≠ b := by
 intro e; subst e; rw [h] at h'; cases h'
section
variable (P : Program) (w : World)
def ObjOk (H : Hp) (h : Heap) (a : Addr) : HO → Prop
 | .lst xs => xs.length ≤ sizeLine ∧ ∃ (its : List Value) (n : Nat), Vals xs its ∧ h.get? a = some { cls := .type "list", data := .seq its.toArray n }
 | .tup xs => xs.length ≤ sizeLine ∧ ∃ its : List Value, Vals xs its ∧ IsTupP h a its.toArray
 | .dK kvs => kvs.length ≤ sizeLine ∧ (a == sysModules) = false ∧ ∃ vs, KV kvs vs ∧ h.DictOf (za1 P w) a vs
 | .dT kvs => kvs.length ≤ sizeLine ∧ (a == sysModules) = false ∧ ∃ xs : List (List Key × Addr × Value),
  Paired (fun (p : List Key × V) (q : List Key × Addr × Value) => p.1 = q.1 ∧ H q.2.1 = some (.tup (p.1.map kV)) ∧ RelV p.2 q.2.2) kvs xs ∧
  ∃ o es ep, h.get? a = some o ∧ o.ExactDict ∧ o.data = .dict es ep ∧ es.toList = xs.map (entryOfKey (tupleKind (za1 P w))) ∧ (xs.map (·.1)).Nodup
 | .set S n => h.SetOf (intKind P w) a S n
 | .ins C dx fs => H dx = some (.own a) ∧ fs.length ≤ 1000 ∧ dx ≠ a ∧ h.get? a = some (PySem.W.instObj C dx) ∧
  ∃ mA, h.Ns1 dx mA ∧ (∀ f, RelO (fs.lookup f) (mA f)) ∧ PySem.Within mA (fs.map (·.1))
 | .own _ => ∃ o, h.get? a = some o
 | .xd fs => ∃ mA, h.Ns1 a mA ∧ ∀ f, RelO (fs.lookup f) (mA f)
 | .rng lo hi => ∃ t u v, h.get? a = some { cls := .type "range", data := .fields #[.int lo t, .int hi u, .int 1 v] }
 | .frz o u => h.get? a = some o ∧ ObjOk H h a u
 | .tbl ps => h.get? a = some { cls := .none, data := .fields ps }
 | .met f x => h.get? a = some (PySem.W.methodObj (.ref f) (.ref x))
 | .ext φ => φ h ∧ (∃ o, h.get? a = some o) ∧ ∀ h1 h2 : Heap, φ h1 → (∀ o, h1.get? a = some o → h2.get? a = some o) → φ h2
def HOk (H : Hp) (h : Heap) : Prop := ∀ a o, H a = some o → ObjOk P w H h a o
end
section
variable {P : Program} {w : World} {H H' : Hp} {h h' : Heap} {a : Addr} {o : HO}
theorem ObjOk.lt (x : ObjOk P w H h a o) : a < h.objs.size := by
 cases o with
 | lst xs => obtain ⟨_, _, _, _, e⟩ := x; exact Heap.lt_size e
 | tup xs => obtain ⟨_, _, _, p⟩ := x; exact (show IsTupP _ _ _ from p).tup.lt
 | dK kvs => obtain ⟨_, _, _, _, o, _, _, e, _⟩ := x; exact Heap.lt_size e
 | dT kvs => obtain ⟨_, _, _, _, o, _, _, e, _⟩ := x; exact Heap.lt_size e
 | set S n => obtain ⟨o, _, _, _, e, _⟩ := x; exact Heap.lt_size e
 | ins C dx fs => obtain ⟨_, _, _, e, _⟩ := x; exact Heap.lt_size e
 | own y => obtain ⟨_, e⟩ := x; exact Heap.lt_size e
 | xd fs => obtain ⟨_, ⟨_, _, _, e, _⟩, _⟩ := x; exact Heap.lt_size e
 | rng lo hi => obtain ⟨_, _, _, e⟩ := x; exact Heap.lt_size e
 | frz ob u => obtain ⟨e, _⟩ := x; exact Heap.lt_size e
 | tbl ps => exact Heap.lt_size (show h.get? a = some _ from x)
 | met f y => exact Heap.lt_size (show h.get? a = some _ from x)
 | ext φ => obtain ⟨_, ⟨_, e⟩, _⟩ := x; exact Heap.lt_size e
theorem Paired.mapP {α β : Type} {F G : α → β → Prop} : ∀ {l₁ : List α} {l₂ : List β}, Paired F l₁ l₂ → (∀ a b, F a b → G a b) → Paired G l₁ l₂
 | _, _, .nil, _ => .nil
 | _, _, .cons r t, f => .cons (f _ _ r) (Paired.mapP t f)
theorem ObjOk.stay (x : ObjOk P w H h a o) (k : ∀ b u, (b = a ∨ H b = some (.own a)) → h.get? b = some u → h'.get? b = some u)
 (ho : ∀ b, H b = some (.own a) → H' b = some (.own a)) (ht : ∀ b xs, H b = some (.tup xs) → H' b = some (.tup xs)) : ObjOk P w H' h' a o := by
 induction o with
 | lst xs => obtain ⟨z, its, n, r, e⟩ := x; exact ⟨z, its, n, r, k _ _ (.inl rfl) e⟩
 | tup xs => obtain ⟨z, its, r, ob, e, c⟩ := x; exact ⟨z, its, r, ob, k _ _ (.inl rfl) e, c⟩
 | dK kvs => obtain ⟨z, y, vs, r, ob, es, ep, e, c⟩ := x; exact ⟨z, y, vs, r, ob, es, ep, k _ _ (.inl rfl) e, c⟩
 | dT kvs =>
  obtain ⟨z, y, xs, r, ob, es, ep, e, c⟩ := x
  exact ⟨z, y, xs, Paired.mapP r fun p q z => ⟨z.1, ht _ _ z.2.1, z.2.2⟩, ob, es, ep, k _ _ (.inl rfl) e, c⟩
 | set S n => obtain ⟨ob, es, ep, t, e, c⟩ := x; exact ⟨ob, es, ep, t, k _ _ (.inl rfl) e, c⟩
 | ins C dx fs =>
  obtain ⟨d, z, ne, e, mA, ⟨od, es, ep, e2, c⟩, r⟩ := x
  exact ⟨ho _ d, z, ne, k _ _ (.inl rfl) e, mA, ⟨od, es, ep, k _ _ (.inr d) e2, c⟩, r⟩
 | own y => obtain ⟨ob, e⟩ := x; exact ⟨ob, k _ _ (.inl rfl) e⟩
 | xd fs => obtain ⟨mA, ⟨od, es, ep, e, c⟩, r⟩ := x; exact ⟨mA, ⟨od, es, ep, k _ _ (.inl rfl) e, c⟩, r⟩
 | rng lo hi => obtain ⟨t, u, v, e⟩ := x; exact ⟨t, u, v, k _ _ (.inl rfl) e⟩
 | frz ob u ih => obtain ⟨e, q⟩ := x; exact ⟨k _ _ (.inl rfl) e, ih q⟩
 | tbl ps =>
  have e : h.get? a = some { cls := .none, data := .fields ps } := x
  show h'.get? a = some { cls := .none, data := .fields ps }
  exact k a _ (.inl rfl) e
 | met f y =>
  have e : h.get? a = some (PySem.W.methodObj (.ref f) (.ref y)) := x
  show h'.get? a = some (PySem.W.methodObj (.ref f) (.ref y))
  exact k a _ (.inl rfl) e
 | ext φ => obtain ⟨p, ⟨o, e⟩, st⟩ := x; exact ⟨st _ _ p fun o q => k _ _ (.inl rfl) q, ⟨o, k _ _ (.inl rfl) e⟩, st⟩
theorem HOk.lt (x : HOk P w H h) (e : H a = some o) : a < h.objs.size := (x a o e).lt
theorem HOk.fresh (x : HOk P w H h) (e : h.objs.size ≤ a) : H a = none := by
 cases q : H a with
 | none => rfl
 | some u => exact absurd (Nat.lt_of_lt_of_le (x.lt q) e) (Nat.lt_irrefl _)
theorem HOk.kept (x : HOk P w H h) (k : ∀ b u, h.get? b = some u → h'.get? b = some u) : HOk P w H h' := fun a o e =>
 (x a o e).stay (fun b u _ q => k b u q) (fun _ q => q) fun _ _ q => q
theorem HOk.laid (x : HOk P w H h) (k : ∀ b u, h.get? b = some u → h'.get? b = some u) (hp : h.objs.size ≤ a) (new : ObjOk P w (upd H a o) h' a o) : HOk P w (upd H a o) h' := fun b u e => by
 have hn := x.fresh hp
 by_cases hb : b = a
 · subst hb; rw [zab] at e; cases e; exact new
 · rw [zak hb] at e
   exact (x b u e).stay (fun c v _ q => k c v q) (fun c q => by rw [zak (zar q hn)]; exact q) fun c xs q => by rw [zak (zar q hn)]; exact q
end
def Rd (H : Hp) (a : Addr) (u : HO) : Prop := H a = some u ∨ ∃ o, H a = some (.frz o u)
theorem Rd.ok {P : Program} {w : World} {H : Hp} {h : Heap} {a : Addr} {u : HO} (r : Rd H a u) (x : HOk P w H h) : ObjOk P w H h a u := by
 rcases r with r | ⟨o, r⟩
 · exact x a u r
 · obtain ⟨_, q⟩ := x a _ r
   exact q
def Mut : Option HO → Prop
 | some (.lst _) => True
 | some (.dK _) => True
 | some (.dT _) => True
 | some (.set _ _) => True
 | some (.ins _ _ _) => True
 | some (.ext _) => True
 | _ => False
section
variable {P : Program} {w : World} {H : Hp} {h h' : Heap} {x e : Addr} {o' : HO}
theorem HOk.write (ok : HOk P w H h) (mu : Mut (H x)) (he : e = x ∨ H e = some (.own x)) (k : ∀ b u, b ≠ e → h.get? b = some u → h'.get? b = some u) (heo : ∃ u, h'.get? e = some u)
 (new : ObjOk P w (upd H x o') h' x o') : HOk P w (upd H x o') h' := fun b u q => by
 have nown : ∀ c y, H c = some (.own y) → c ≠ x := fun c y r z => by subst z; rw [r] at mu; exact mu
 have ntup : ∀ c xs, H c = some (.tup xs) → c ≠ x := fun c xs r z => by subst z; rw [r] at mu; exact mu
 by_cases hb : b = x
 · subst hb; rw [zab] at q; cases q; exact new
 · rw [zak hb] at q
   by_cases hbe : b = e
   · have q' : H b = some (.own x) := by
      rcases he with z | z
      · exact absurd (hbe.trans z) hb
      · rw [hbe]; exact z
     rw [q] at q'; cases q'
     obtain ⟨v, hv⟩ := heo
     exact ⟨v, by rw [hbe]; exact hv⟩
   · refine (ok b u q).stay (fun c v hc r => k c v ?_ r) (fun c r => by rw [zak (nown c b r)]; exact r) fun c xs r => by rw [zak (ntup c xs r)]; exact r
     rcases hc with rfl | hc
     · exact hbe
     · rintro rfl
       rcases he with z | z
       · exact nown c b hc z
       · rw [hc] at z; cases z; exact hb rfl
end
structure Un (fs ex : List Addr) (H H' : Hp) (h h' : Heap) : Prop where
 keep : ∀ b o, h.get? b = some o → H b = none → b ∉ fs → b ∉ ex → h'.get? b = some o
 slot : ∀ b o, h.get? b = some o → H b = none → b ∈ fs → b ∉ ex → ∃ sl, h'.get? b = some { o with slots := sl }
 free : ∀ b o, h.get? b = some o → H b = none → b ∉ ex → H' b = none
 there : ∀ b o, h.get? b = some o → b ∉ ex → ∃ o', h'.get? b = some o'
 tups : ∀ b xs, H b = some (.tup xs) → H' b = some (.tup xs)
 frzs : ∀ b o u, H b = some (.frz o u) → H' b = some (.frz o u)
 tbls : ∀ b ps, H b = some (.tbl ps) → ∃ more, H' b = some (.tbl (ps ++ more))
section
variable {fs fs' ex ex' : List Addr} {H H1 H2 : Hp} {h h1 h2 h' : Heap} {a x e : Addr} {o : HO}
theorem Un.any (u : Un fs ex H H1 h h1) {b : Addr} {ob : Obj} (q : h.get? b = some ob) (n : H b = none) (hx : b ∉ ex) : ∃ sl, h1.get? b = some { ob with slots := sl } := by
 by_cases hb : b ∈ fs
 · exact u.slot b ob q n hb hx
 · exact ⟨ob.slots, u.keep b ob q n hb hx⟩
theorem Un.kept (k : ∀ b u, h.get? b = some u → h'.get? b = some u) : Un fs ex H H h h' :=
 ⟨fun b ob q _ _ _ => k b ob q, fun b ob q _ _ _ => ⟨ob.slots, k b ob q⟩, fun _ _ _ n _ => n, fun b ob q _ => ⟨ob, k b ob q⟩, fun _ _ q => q, fun _ _ _ q => q, fun _ ps q => ⟨#[], by rw [q]; simp⟩⟩
theorem Un.refl : Un fs ex H H h h := Un.kept fun _ _ q => q
theorem Un.laid (k : ∀ b u, h.get? b = some u → h'.get? b = some u) (hp : h.objs.size ≤ a) (hn : H a = none) : Un fs ex H (upd H a o) h h' where
 keep := fun b u q _ _ _ => k b u q
 slot := fun b u q _ _ _ => ⟨u.slots, k b u q⟩
 free := fun b u q n _ => by rw [zak (Nat.ne_of_lt (Nat.lt_of_lt_of_le (Heap.lt_size q) hp))]; exact n
 there := fun b u q _ => ⟨u, k b u q⟩
 tups := fun b xs q => by rw [zak (zar q hn)]; exact q
 frzs := fun b u xs q => by rw [zak (zar q hn)]; exact q
 tbls := fun b ps q => ⟨#[], by rw [zak (zar q hn), q]; simp⟩
theorem Un.write (mu : Mut (H x)) (he : e = x ∨ H e = some (.own x)) (k : ∀ b u, b ≠ e → h.get? b = some u → h'.get? b = some u) (heo : ∃ u, h'.get? e = some u) : Un fs ex H (upd H x o) h h' := by
 have hx : ∀ b, H b = none → b ≠ x := fun b n z => by subst z; rw [n] at mu; exact mu
 have hb : ∀ b, H b = none → b ≠ e := fun b n z => by
  subst z
  rcases he with r | r
  · exact hx b n r
  · rw [n] at r; cases r
 have hm : ∀ b u, H b = some u → ¬ Mut (some u) → b ≠ x := fun b u q nm z => by subst z; rw [q] at mu; exact nm mu
 refine ⟨fun b u q n _ _ => k b u (hb b n) q, fun b u q n _ _ => ⟨u.slots, k b u (hb b n) q⟩, fun b u q n _ => by rw [zak (hx b n)]; exact n, fun b u q _ => ?_,
  fun b xs q => by rw [zak (hm b _ q fun z => z)]; exact q, fun b u xs q => by rw [zak (hm b _ q fun z => z)]; exact q, fun b ps q => ⟨#[], by rw [zak (hm b _ q fun z => z), q]; simp⟩⟩
 by_cases hbe : b = e
 · subst hbe; exact heo
 · exact ⟨u, k b u hbe q⟩
end
def trk (h : Heap) (H : Hp) : List Addr := (List.range h.objs.size).filter fun a => (H a).isSome
def hidT (h : Heap) (H : Hp) : Heap := PySem.W.hideAll h (trk h H)
theorem zi4 (h : Heap) (H : Hp) : (hidT h H).objs.size = h.objs.size := PySem.W.hideAll_size _ _
theorem zjM {h : Heap} {H : Hp} {b : Addr} {o : Obj} (e : h.get? b = some o) (n : H b = none) : (hidT h H).get? b = some o :=
 PySem.W.hideAll_get _ e fun hm => by
  have q : (H b).isSome = true := (List.mem_filter.mp hm).2
  rw [n] at q; simp at q
theorem zkK {h : Heap} {H : Hp} {b : Addr} {o : Obj} (e : (hidT h H).get? b = some o) : h.get? b = some o ∧ H b = none := by
 have e' : h.get? b = some o := PySem.W.of_hideAll (trk h H) e
 refine ⟨e', ?_⟩
 cases q : H b with
 | none => rfl
 | some x =>
  have hm : b ∈ trk h H := List.mem_filter.mpr ⟨List.mem_range.mpr (Heap.lt_size e'), by simp [q]⟩
  have z : (hidT h H).get? b = none := PySem.W.hideAll_none (trk h H) hm
  rw [z] at e; cases e
def zk1 (g h : Heap) (L : Addr) : List (Addr × Obj) := (List.range h.objs.size).filterMap fun a => if a = L ∨ (g.get? a).isSome = true then none else (h.get? a).map fun o => (a, o)
def rest (g h : Heap) (L d : Addr) : List (Addr × Obj) := (zk1 g h L).filter fun p => decide (p.1 ≠ d)
structure Mod (K : PySem.W.Frag) (mg : Str → Option Value) (base : Heap) : Prop where
 kin : K.In base
 glob : base.Ns mainGlobals mg
 blt : ∃ mb, base.Ns builtinsNs mb ∧ ∀ x : Str, x ≠ "__name__" → mb x = bootBuiltins x
 nolimit : base.NoLimit
structure Cx where
 prog : Program
 w : World
 K : PySem.W.Frag
 mg : Str → Option Value
 base : Heap
 A : Around
 N : List Str
 s₀ : Shared
 H₀ : Hp
 env : Env
 outer : List Env
 stack : List Env
 ex : List Addr
 fn : Str → Bool
 calm : Bool
 pn : List (Addr × Obj)
 xe : Value → Shared → Prop
def frs (l : List Env) : List Addr := l.filterMap (·.frame)
abbrev Cx.fs (X : Cx) : List Addr := frs X.outer
def Vis (sc : Scope) (x : Str) : Prop := sc.names.lookup x = some .local ∨ sc.names.lookup x = some .cell ∨ sc.names.lookup x = some .free
def Loc (sc : Scope) (x : Str) : Prop := sc.names.lookup x = some .local ∨ sc.names.lookup x = some .cell
def Look (env : Env) (h : Heap) (m : Str → Option Value) (x : Str) (u : Value) : Prop :=
 (env.kindOf x = some .local ∧ m x = some u) ∨ ((env.kindOf x = some .cell ∨ env.kindOf x = some .free) ∧ ∃ c, env.cells.lookup x = some c ∧ h.IsCell c (some u))
structure Cx.Ok (X : Cx) : Prop where
 mod : Mod X.K X.mg X.base
 kind : X.env.scope.kind = .function
 glob : X.env.globals = mainGlobals
 blt : X.env.builtins = builtinsNs
 above : X.s₀.heap.objs.size ≤ X.env.locals
 inj : ∀ x y c, X.env.cells.lookup x = some c → X.env.cells.lookup y = some c → x = y
 has : ∀ x, (X.env.kindOf x = some .cell ∨ X.env.kindOf x = some .free) → ∃ c, X.env.cells.lookup x = some c
 cab : ∀ x c, X.fn x = true → X.env.cells.lookup x = some c → X.s₀.heap.objs.size ≤ c
 hd : X.calm = true → X.A.handled = none
 frames : X.A.frames = some X.stack
 stk : X.stack = X.outer ∨ (X.stack = X.env :: X.outer ∧ X.env.frame = some X.env.locals)
 exf : ∀ b ∈ X.ex, b ≠ X.env.locals ∧ ∀ x c, X.env.cells.lookup x = some c → c ≠ b
 bs : ∀ b o, X.base.get? b = some o → X.s₀.heap.get? b = some o ∧ X.H₀ b = none
 bsz : X.base.objs.size ≤ X.s₀.heap.objs.size
 noex : ∀ b o, X.base.get? b = some o → b ∉ X.ex
 exfs : ∀ b ∈ X.ex, b ∉ X.fs
 funs : X.s₀.heap.FunFrames X.base X.outer
 frf : ∀ b ∈ X.fs, X.H₀ b = none
structure Inv (X : Cx) (pins : List (Addr × Obj)) (σ : List (Option V)) (H : Hp) (s : Shared) : Prop where
 ok : X.Ok
 os : s.os = X.s₀.os
 bare : AllBare s.gens
 base : Un X.fs X.ex X.H₀ H X.s₀.heap s.heap
 loc : ∃ m, s.heap.Ns X.env.locals m ∧ ∀ (i : Nat) (x : Str) (v : V), X.N[i]? = some x → σ[i]? = some (some v) → Vis X.env.scope x → ∃ u, RelV v u ∧ Look X.env s.heap m x u
 cell : ∀ x c, X.env.cells.lookup x = some c → ∃ v, s.heap.IsCell c v
 free : H X.env.locals = none
 freeC : ∀ x c, X.env.cells.lookup x = some c → H c = none
 pin : ∀ p ∈ X.pn ++ pins, s.heap.get? p.1 = some p.2 ∧ H p.1 = none ∧ p.1 ≠ X.env.locals ∧ p.1 ∉ X.fs ∧ ∀ v, p.2.data ≠ .cell v
 hok : HOk X.prog X.w H s.heap
 len : σ.length = X.N.length
section
variable {X : Cx} {pins : List (Addr × Obj)} {σ : List (Option V)} {H H' : Hp} {s : Shared} {h' : Heap}
theorem Cx.Ok.nofr (ok : X.Ok) {b : Addr} {o : Obj} (e : X.base.get? b = some o) : b ∉ X.fs := fun hb => by
 have := (ok.funs.mem hb).1
 rw [e] at this; cases this
theorem Inv.bs (I : Inv X pins σ H s) : ∀ b o, X.base.get? b = some o → s.heap.get? b = some o ∧ H b = none := fun b o e =>
 ⟨I.base.keep b o (I.ok.bs b o e).1 (I.ok.bs b o e).2 (I.ok.nofr e) (I.ok.noex b o e), I.base.free b o (I.ok.bs b o e).1 (I.ok.bs b o e).2 (I.ok.noex b o e)⟩
theorem Inv.bk (I : Inv X pins σ H s) : ∀ b o, X.base.get? b = some o → s.heap.get? b = some o := fun b o e => (I.bs b o e).1
theorem Inv.mod (I : Inv X pins σ H s) : Mod X.K X.mg X.base := I.ok.mod
theorem Inv.kIn (I : Inv X pins σ H s) : X.K.In s.heap := I.ok.mod.kin.keeps I.bk
theorem Inv.fr (I : Inv X pins σ H s) : ∃ m, Fr X.base X.env.locals s.heap m :=
 let ⟨m, hn, _⟩ := I.loc
 ⟨m, hn, I.bk, Nat.le_trans I.ok.bsz I.ok.above⟩
theorem Inv.lt (I : Inv X pins σ H s) : X.env.locals < s.heap.objs.size := let ⟨_, hn, _⟩ := I.loc; hn.lt
theorem Inv.sz (I : Inv X pins σ H s) : X.s₀.heap.objs.size ≤ s.heap.objs.size := Nat.le_trans I.ok.above (Nat.le_of_lt I.lt)
theorem Inv.nofs (I : Inv X pins σ H s) {a : Addr} (h : s.heap.objs.size ≤ a) : a ∉ X.fs := fun hb => by
 obtain ⟨_, o, ho, _⟩ := I.ok.funs.mem hb
 exact absurd (Nat.lt_of_lt_of_le (Heap.lt_size ho) (Nat.le_trans I.sz h)) (Nat.lt_irrefl _)
theorem Inv.cne (I : Inv X pins σ H s) : ∀ x c, X.env.cells.lookup x = some c → c ≠ X.env.locals := fun x c e z => by
 obtain ⟨v, o, ho, hd⟩ := I.cell x c e
 obtain ⟨m, ⟨o', es, ep, ho', hd', _⟩, _⟩ := I.loc
 rw [z, ho'] at ho; cases ho; rw [hd'] at hd; cases hd
theorem Inv.funs (I : Inv X pins σ H s) : s.heap.FunFrames X.base X.outer := by
 have all : ∀ (l : List Env), (∀ b ∈ frs l, b ∈ X.fs) → X.s₀.heap.FunFrames X.base l → s.heap.FunFrames X.base l := by
  intro l
  induction l with
  | nil => intro _ _; trivial
  | cons env r ih =>
   intro hs hl
   obtain ⟨hk, ⟨L, o, hf, hn, ho, hd⟩, hr⟩ := hl
   have hL : L ∈ X.fs := hs L (by unfold frs; rw [List.filterMap_cons, hf]; exact List.mem_cons_self)
   obtain ⟨sl, e⟩ := I.base.slot L o ho (I.ok.frf L hL) hL fun z => I.ok.exfs L z hL
   exact ⟨hk, ⟨L, _, hf, hn, e, hd⟩, ih (fun b hb => hs b (by unfold frs; rw [List.filterMap_cons, hf]; exact List.mem_cons_of_mem _ hb)) hr⟩
 exact all X.outer (fun _ hb => hb) I.ok.funs
theorem Inv.stack (I : Inv X pins σ H s) : s.heap.FunFrames X.base X.stack := by
 rcases I.ok.stk with e | ⟨e, hf⟩
 · rw [e]; exact I.funs
 · rw [e]
   obtain ⟨m, hn, _⟩ := I.loc
   refine .cons (by rw [I.ok.kind]; decide) hf hn ?_ I.funs
   exact Heap.get?_none_of_le (Nat.le_trans I.ok.bsz I.ok.above)
theorem Inv.stkSub (I : Inv X pins σ H s) : ∀ b ∈ frs X.stack, b ∈ X.env.locals :: X.fs := fun b hb => by
 rcases I.ok.stk with e | ⟨e, hf⟩
 · rw [e] at hb; exact List.mem_cons_of_mem _ hb
 · rw [e] at hb
   unfold frs at hb
   rw [List.filterMap_cons, hf] at hb
   exact hb
theorem Inv.stkFree (I : Inv X pins σ H s) : ∀ b ∈ frs X.stack, H b = none := fun b hb => by
 rcases List.mem_cons.mp (I.stkSub b hb) with e | hb
 · rw [e]; exact I.free
 · obtain ⟨_, o, ho, _⟩ := I.ok.funs.mem hb
   exact I.base.free b o ho (I.ok.frf b hb) fun z => I.ok.exfs b z hb
theorem Inv.step {g' : Array GenState} {t' : Nat} {d' : Drawn} {ch : List Addr} (I : Inv X pins σ H s)
 (hch : ∀ b ∈ ch, (b ∈ X.ex ∨ X.s₀.heap.objs.size ≤ b) ∧ b ≠ X.env.locals ∧ (∀ x c, X.env.cells.lookup x = some c → c ≠ b) ∧ ∀ p ∈ X.pn ++ pins, p.1 ≠ b)
 (keep : ∀ b o, b ≠ X.env.locals → b ∉ X.fs → b ∉ ch → s.heap.get? b = some o → H b = none → h'.get? b = some o)
 (slot : ∀ b o, b ≠ X.env.locals → b ∈ X.fs → b ∉ ch → s.heap.get? b = some o → H b = none → ∃ sl, h'.get? b = some { o with slots := sl }) (free : ∀ b o, b ∉ ch → s.heap.get? b = some o → H b = none → H' b = none)
 (there : ∀ b o, b ∉ ch → s.heap.get? b = some o → ∃ o', h'.get? b = some o')
 (tups : ∀ b xs, H b = some (.tup xs) → H' b = some (.tup xs)) (frzs : ∀ b o u, H b = some (.frz o u) → H' b = some (.frz o u)) (tbls : ∀ b ps, H b = some (.tbl ps) → ∃ more, H' b = some (.tbl (ps ++ more)))
 (ns : ∀ m, s.heap.Ns X.env.locals m → h'.Ns X.env.locals m) (hok : HOk X.prog X.w H' h') (hg : AllBare g') :
 Inv X pins σ H' { s with heap := h', gens := g', drawn := d', toks := t' } := by
 have neL : ∀ b o, X.s₀.heap.get? b = some o → b ≠ X.env.locals := fun b o e => Nat.ne_of_lt (Nat.lt_of_lt_of_le (Heap.lt_size e) I.ok.above)
 have neC : ∀ b o, X.s₀.heap.get? b = some o → b ∉ X.ex → b ∉ ch := fun b o e hx hb => by
  rcases (hch b hb).1 with z | z
  · exact hx z
  · exact absurd (Nat.lt_of_lt_of_le (Heap.lt_size e) z) (Nat.lt_irrefl _)
 have cellK : ∀ x c, X.env.cells.lookup x = some c → ∀ v, s.heap.IsCell c v → h'.IsCell c v := fun x c e v ⟨o, ho, hd⟩ => by
  have nch : c ∉ ch := fun z => (hch c z).2.2.1 x c e rfl
  by_cases hc : c ∈ X.fs
  · obtain ⟨sl, q⟩ := slot c o (I.cne x c e) hc nch ho (I.freeC x c e)
    exact ⟨_, q, hd⟩
  · exact ⟨o, keep c o (I.cne x c e) hc nch ho (I.freeC x c e), hd⟩
 refine ⟨I.ok, I.os, hg, ⟨fun b o e n hb hx => ?_, fun b o e n hb hx => ?_, fun b o e n hx => ?_, fun b o e hx => ?_, fun b xs e => tups b xs (I.base.tups b xs e), fun b o xs e => frzs b o xs (I.base.frzs b o xs e), fun b ps e => ?_⟩, ?_, fun x c e => ?_, ?_, fun x c e => ?_, fun p hp => ?_, hok, I.len⟩
 · exact keep b o (neL b o e) hb (neC b o e hx) (I.base.keep b o e n hb hx) (I.base.free b o e n hx)
 · obtain ⟨sl, e1⟩ := I.base.slot b o e n hb hx
   obtain ⟨sl', e2⟩ := slot b _ (neL b o e) hb (neC b o e hx) e1 (I.base.free b o e n hx)
   exact ⟨sl', e2⟩
 · obtain ⟨o', e1⟩ := I.base.there b o e hx
   exact free b o' (neC b o e hx) e1 (I.base.free b o e n hx)
 · obtain ⟨o', e1⟩ := I.base.there b o e hx
   exact there b o' (neC b o e hx) e1
 · obtain ⟨m1, e1⟩ := I.base.tbls b ps e
   obtain ⟨m2, e2⟩ := tbls b _ e1
   exact ⟨m1 ++ m2, by rw [e2, Array.append_assoc]⟩
 · obtain ⟨m, hn, hl⟩ := I.loc
   refine ⟨m, ns m hn, fun i x v e1 e2 e3 => ?_⟩
   obtain ⟨u, r, l⟩ := hl i x v e1 e2 e3
   refine ⟨u, r, ?_⟩
   rcases l with l | ⟨k, c, e, z⟩
   · exact .inl l
   · exact .inr ⟨k, c, e, cellK x c e _ z⟩
 · obtain ⟨v, z⟩ := I.cell x c e
   exact ⟨v, cellK x c e v z⟩
 · obtain ⟨m, ⟨o, _, _, ho, _⟩, _⟩ := I.loc
   exact free _ o (fun z => (hch _ z).2.1 rfl) ho I.free
 · obtain ⟨v, o, ho, hd⟩ := I.cell x c e
   exact free c o (fun z => (hch c z).2.2.1 x c e rfl) ho (I.freeC x c e)
 · obtain ⟨e, n, ne, nf, d⟩ := I.pin p hp
   have nch : p.1 ∉ ch := fun z => (hch p.1 z).2.2.2 p hp rfl
   exact ⟨keep p.1 p.2 ne nf nch e n, free p.1 p.2 nch e n, ne, nf, d⟩
theorem Inv.un {t' : Nat} (I : Inv X pins σ H s) (u : Un X.fs [] H H' s.heap h') (hok : HOk X.prog X.w H' h') : Inv X pins σ H' { s with heap := h', toks := t' } := by
 obtain ⟨m, ⟨o, es, ep, ho, r⟩, _⟩ := id I.loc
 obtain ⟨sl, hL⟩ := u.any ho I.free (by simp)
 exact I.step (g' := s.gens) (d' := s.drawn) (ch := []) (fun _ z => nomatch z) (fun b o _ hb _ e n => u.keep b o e n hb (by simp)) (fun b o _ hb _ e n => u.slot b o e n hb (by simp)) (fun b o _ e n => u.free b o e n (by simp)) (fun b o _ e => u.there b o e (by simp)) u.tups u.frzs u.tbls (fun m' hm => by
  obtain ⟨o', es', ep', ho', r'⟩ := hm
  rw [ho] at ho'; cases ho'
  exact ⟨_, es', ep', hL, r'⟩) hok I.bare
theorem Inv.call {g' : Array GenState} {t' : Nat} {d' : Drawn} {ch : List Addr} (I : Inv X pins σ H s) (u : Un (frs X.stack) ch H H' s.heap h') (hok : HOk X.prog X.w H' h') (hg : AllBare g')
 (hch : ∀ b ∈ ch, (b ∈ X.ex ∨ X.s₀.heap.objs.size ≤ b) ∧ b ≠ X.env.locals ∧ (∀ x c, X.env.cells.lookup x = some c → c ≠ b) ∧ ∀ p ∈ X.pn ++ pins, p.1 ≠ b) :
 Inv X pins σ H' { s with heap := h', gens := g', drawn := d', toks := t' } := by
 obtain ⟨m, ⟨o, es, ep, ho, r⟩, _⟩ := id I.loc
 obtain ⟨sl, hL⟩ := u.any ho I.free fun z => (hch _ z).2.1 rfl
 exact I.step (ch := ch) hch (fun b o hL hb hc e n => u.keep b o e n (fun z => (List.mem_cons.mp (I.stkSub b z)).elim hL hb) hc) (fun b o _ _ hc e n => u.any e n hc) (fun b o hc e n => u.free b o e n hc) (fun b o hc e => u.there b o e hc) u.tups u.frzs u.tbls (fun m' hm => by
  obtain ⟨o', es', ep', ho', r'⟩ := hm
  rw [ho] at ho'; cases ho'
  exact ⟨_, es', ep', hL, r'⟩) hok hg
theorem Inv.turned {t' : Nat} {it : Addr} (I : Inv X pins σ H s) (k : ∀ b o, b ≠ it → s.heap.get? b = some o → h'.get? b = some o) (hn : H it = none) (hL : it ≠ X.env.locals)
 (h1 : it ∈ X.ex ∨ X.s₀.heap.objs.size ≤ it) (h2 : ∀ x c, X.env.cells.lookup x = some c → c ≠ it) (h3 : ∀ p ∈ X.pn ++ pins, p.1 ≠ it) : Inv X pins σ H { s with heap := h', toks := t' } := by
 have nit : ∀ b u, H b = some u → b ≠ it := fun b u e z => by rw [z, hn] at e; cases e
 refine I.step (g' := s.gens) (d' := s.drawn) (ch := [it]) (fun b hb => ?_) (fun b o _ _ hc e _ => k b o (fun z => hc (by simp [z])) e) (fun b o _ _ hc e _ => ⟨o.slots, k b o (fun z => hc (by simp [z])) e⟩) (fun _ _ _ _ n => n)
  (fun b o hc e => ⟨o, k b o (fun z => hc (by simp [z])) e⟩) (fun _ _ e => e) (fun _ _ _ e => e) (fun b ps e => ⟨#[], by rw [e]; simp⟩) (fun m hm => ?_) (fun b u e => ?_) I.bare
 · have e : b = it := by simpa using hb
   subst e
   exact ⟨h1, hL, h2, h3⟩
 · obtain ⟨o, es, ep, ho, r⟩ := hm
   exact ⟨o, es, ep, k _ o (Ne.symm hL) ho, r⟩
 · refine (I.hok b u e).stay (fun c v hc q => k c v ?_ q) (fun _ q => q) fun _ _ q => q
   rcases hc with z | z
   · rw [z]; exact nit b u e
   · exact nit c _ z
theorem Inv.tok (I : Inv X pins σ H s) (t : Nat) : Inv X pins σ H { s with toks := t } := I.un (h' := s.heap) (t' := t) Un.refl I.hok
theorem Inv.kept {t' : Nat} (I : Inv X pins σ H s) (k : ∀ b u, s.heap.get? b = some u → h'.get? b = some u) : Inv X pins σ H { s with heap := h', toks := t' } := I.un (Un.kept k) (I.hok.kept k)
theorem Inv.laid {a : Addr} {o : HO} {t' : Nat} (I : Inv X pins σ H s) (k : ∀ b u, s.heap.get? b = some u → h'.get? b = some u) (hp : s.heap.objs.size ≤ a) (new : ObjOk X.prog X.w (upd H a o) h' a o) :
 Inv X pins σ (upd H a o) { s with heap := h', toks := t' } := I.un (Un.laid k hp (I.hok.fresh hp)) (I.hok.laid k hp new)
theorem Inv.write {x e : Addr} {o : HO} {t' : Nat} (I : Inv X pins σ H s) (mu : Mut (H x)) (he : e = x ∨ H e = some (.own x)) (k : ∀ b u, b ≠ e → s.heap.get? b = some u → h'.get? b = some u) (heo : ∃ u, h'.get? e = some u)
 (new : ObjOk X.prog X.w (upd H x o) h' x o) : Inv X pins σ (upd H x o) { s with heap := h', toks := t' } := I.un (Un.write mu he k heo) (I.hok.write mu he k heo new)
theorem Inv.pins_of {pins' : List (Addr × Obj)} (I : Inv X pins σ H s) (h : ∀ p ∈ pins', s.heap.get? p.1 = some p.2 ∧ H p.1 = none ∧ p.1 ≠ X.env.locals ∧ p.1 ∉ X.fs ∧ ∀ v, p.2.data ≠ .cell v) : Inv X pins' σ H s :=
 ⟨I.ok, I.os, I.bare, I.base, I.loc, I.cell, I.free, I.freeC, fun p hp => (List.mem_append.mp hp).elim (fun z => I.pin p (List.mem_append_left _ z)) (h p), I.hok, I.len⟩
theorem zhg {N : List Str} (hN : N.Nodup) {i j : Nat} {x : Str} (a : N[i]? = some x) (b : N[j]? = some x) : i = j := by
 obtain ⟨h1, e1⟩ := List.getElem?_eq_some_iff.mp a
 obtain ⟨h2, e2⟩ := List.getElem?_eq_some_iff.mp b
 exact (List.getElem_inj hN).mp (e1.trans e2.symm)
theorem zfk {M : Model} {A : Around} {E : Value → Shared → Prop} {i : Nat} {x : Str} {v : V} {u : Value} {Q : Unit → Shared → Prop} (I : Inv X pins σ H s) (hN : X.N.Nodup) (hi : X.N[i]? = some x) (hx : Loc X.env.scope x) (r : RelV v u)
 (h : ∀ s', Inv X pins (σ.set i (some v)) H s' → (∃ a, Heap.SameBut a s.heap s'.heap ∧ (a = X.env.locals ∨ X.env.cells.lookup x = some a)) → Q () s') (hf : X.fn x = true ∨ X.env.scope.names.lookup x = some .local := by first | exact .inl rfl | exact .inr rfl | assumption) : wpAny M A (storeName X.env x u) Q E s := by
 obtain ⟨m, hn, hl⟩ := id I.loc
 have hcls : (X.env.scope.kind == .class || (X.env.scope.kind == .module && X.env.locals != X.env.globals)) = false := by rw [I.ok.kind]; rfl
 have hiσ : i < σ.length := by rw [I.len]; exact (List.getElem?_eq_some_iff.mp hi).1
 have cne := I.cne
 have tracked : ∀ {a : Addr} {h' : Heap}, (∃ o, s.heap.get? a = some o ∧ H a = none) → Heap.SameBut a s.heap h' → HOk X.prog X.w H h' := fun {a h'} ha hs b ob e => by
  obtain ⟨_, _, hfree⟩ := ha
  refine (I.hok b ob e).stay (fun c w' hc q => (hs.2 c ?_).trans q) (fun _ q => q) fun _ _ q => q
  rintro rfl
  rcases hc with rfl | hc
  · rw [hfree] at e; cases e
  · rw [hfree] at hc; cases hc
 rcases hx with hk | hk
 · refine wpAny_storeName_local hk hn (fun h' hn' hs => ?_) hcls
   obtain ⟨oL, _, _, hoL, _⟩ := id hn
   refine h _ ⟨I.ok, I.os, I.bare, ⟨fun b o e n hb hx => ?_, fun b o e n hb hx => ?_, I.base.free, fun b o e hx => ?_, I.base.tups, I.base.frzs, I.base.tbls⟩, ⟨_, hn', fun j y v' e1 e2 e3 => ?_⟩, fun y c e => ?_, I.free, I.freeC, fun p hp => ?_, tracked ⟨oL, hoL, I.free⟩ hs, by simpa using I.len⟩ ⟨_, hs, .inl rfl⟩
   · exact (hs.2 b (Nat.ne_of_lt (Nat.lt_of_lt_of_le (Heap.lt_size e) I.ok.above))).trans (I.base.keep b o e n hb hx)
   · obtain ⟨sl, e1⟩ := I.base.slot b o e n hb hx
     exact ⟨sl, (hs.2 b (Nat.ne_of_lt (Nat.lt_of_lt_of_le (Heap.lt_size e) I.ok.above))).trans e1⟩
   · obtain ⟨o', e1⟩ := I.base.there b o e hx
     exact ⟨o', (hs.2 b (Nat.ne_of_lt (Nat.lt_of_lt_of_le (Heap.lt_size e) I.ok.above))).trans e1⟩
   · by_cases hj : j = i
     · subst hj
       rw [hi] at e1; cases e1
       rw [List.getElem?_set_self hiσ] at e2
       cases e2
       exact ⟨u, r, .inl ⟨hk, by simp⟩⟩
     · rw [List.getElem?_set_ne (Ne.symm hj)] at e2
       obtain ⟨u', r', q⟩ := hl j y v' e1 e2 e3
       refine ⟨u', r', ?_⟩
       rcases q with ⟨k, e⟩ | ⟨k, c, e, z⟩
       · refine .inl ⟨k, ?_⟩
         have : y ≠ x := fun e => hj (zhg hN e1 (e ▸ hi))
         simp [this, e]
       · exact .inr ⟨k, c, e, z.sameBut hs (cne y c e)⟩
   · obtain ⟨w', z⟩ := I.cell y c e
     exact ⟨w', z.sameBut hs (cne y c e)⟩
   · obtain ⟨e, n, ne, nf, d⟩ := I.pin p hp
     exact ⟨(hs.2 p.1 ne).trans e, n, ne, nf, d⟩
 · have hfn : X.fn x = true := by
    rcases hf with z | z
    · exact z
    · rw [z] at hk; cases hk
   obtain ⟨c, hc⟩ := I.ok.has x (.inl hk)
   obtain ⟨w', z⟩ := I.cell x c hc
   refine wpAny_storeName_cell I.ok.kind hk hc z (fun h' hc' hs => ?_)
   obtain ⟨oc, hoc, hocd⟩ := id z
   refine h { s with heap := h' } ⟨I.ok, I.os, I.bare, ⟨fun b o e n hb hx => ?_, fun b o e n hb hx => ?_, I.base.free, fun b o e hx => ?_, I.base.tups, I.base.frzs, I.base.tbls⟩, ⟨m, hn.sameBut hs (Ne.symm (cne x c hc)), fun j y v' e1 e2 e3 => ?_⟩, fun y c' e => ?_, I.free, I.freeC, fun p hp => ?_, tracked ⟨oc, hoc, I.freeC x c hc⟩ hs, by simpa using I.len⟩ ⟨c, hs, .inr hc⟩
   · exact (hs.2 b (Nat.ne_of_lt (Nat.lt_of_lt_of_le (Heap.lt_size e) (I.ok.cab x c hfn hc)))).trans (I.base.keep b o e n hb hx)
   · obtain ⟨sl, e1⟩ := I.base.slot b o e n hb hx
     exact ⟨sl, (hs.2 b (Nat.ne_of_lt (Nat.lt_of_lt_of_le (Heap.lt_size e) (I.ok.cab x c hfn hc)))).trans e1⟩
   · obtain ⟨o', e1⟩ := I.base.there b o e hx
     exact ⟨o', (hs.2 b (Nat.ne_of_lt (Nat.lt_of_lt_of_le (Heap.lt_size e) (I.ok.cab x c hfn hc)))).trans e1⟩
   · by_cases hj : j = i
     · subst hj
       rw [hi] at e1; cases e1
       rw [List.getElem?_set_self hiσ] at e2
       cases e2
       exact ⟨u, r, .inr ⟨.inl hk, c, hc, hc'⟩⟩
     · rw [List.getElem?_set_ne (Ne.symm hj)] at e2
       obtain ⟨u', r', q⟩ := hl j y v' e1 e2 e3
       refine ⟨u', r', ?_⟩
       rcases q with q | ⟨k, c', e, z'⟩
       · exact .inl q
       · refine .inr ⟨k, c', e, z'.sameBut hs ?_⟩
         rintro rfl
         exact hj (zhg hN e1 (I.ok.inj _ _ _ e hc ▸ hi))
   · by_cases hcc : c' = c
     · subst hcc; exact ⟨_, hc'⟩
     · obtain ⟨w2, z2⟩ := I.cell y c' e
       exact ⟨w2, z2.sameBut hs hcc⟩
   · obtain ⟨e, n, ne, nf, d⟩ := I.pin p hp
     refine ⟨(hs.2 p.1 ?_).trans e, n, ne, nf, d⟩
     intro q
     rw [q, hoc] at e
     have q' : oc = p.2 := Option.some.inj e
     exact d w' (by rw [← q']; exact hocd)
theorem zg5 {M : Model} {A : Around} {E : Value → Shared → Prop} {i : Nat} {x : Str} {v : V} {u : Value} {Q : Unit → Shared → Prop} (I : Inv X pins σ H s) (hN : X.N.Nodup) (hi : X.N[i]? = some x) (hx : Loc X.env.scope x) (r : RelV v u)
 (h : ∀ s', Inv X pins (σ.set i (some v)) H s' → Q () s') (hf : X.fn x = true ∨ X.env.scope.names.lookup x = some .local := by first | exact .inl rfl | exact .inr rfl | assumption) : wpAny M A (storeName X.env x u) Q E s :=
 zfk I hN hi hx r (fun s' I' _ => h s' I') hf
theorem Inv.call' {s' : Shared} {ch : List Addr} (I : Inv X pins σ H s) (ho : s'.os = s.os) (u : Un (frs X.stack) ch H H' s.heap s'.heap) (hok : HOk X.prog X.w H' s'.heap) (hg : AllBare s'.gens)
 (hch : ∀ b ∈ ch, (b ∈ X.ex ∨ X.s₀.heap.objs.size ≤ b) ∧ b ≠ X.env.locals ∧ (∀ x c, X.env.cells.lookup x = some c → c ≠ b) ∧ ∀ p ∈ X.pn ++ pins, p.1 ≠ b) : Inv X pins σ H' s' := by
 obtain ⟨h', g', d', t', o'⟩ := s'
 have e : o' = s.os := ho
 subst e
 exact I.call (g' := g') (t' := t') (d' := d') u hok hg hch
end
abbrev XK := Value → Option Addr → Hp → Prop
abbrev St := List (Option V)
abbrev VK := V → Hp → Prop
abbrev TE := St → Hp → VK → Prop
abbrev TT := St → Hp → (Bool → Hp → Prop) → Prop
abbrev TA := St → Hp → (List V → Hp → Prop) → Prop
structure Ends where
 nx : St → Hp → Prop
 rt : VK
 bk : St → Hp → Prop := fun _ _ => False
 ct : St → Hp → Prop := fun _ _ => False
abbrev TS := Ends → St → Hp → Prop
def EP (X : Cx) (pins : List (Addr × Obj)) (σ : St) (Q : VK) (u : Value) (s' : Shared) : Prop := ∃ v H', Inv X pins σ H' s' ∧ RelV v u ∧ Q v H'
def TP (X : Cx) (pins : List (Addr × Obj)) (σ : St) (Q : Bool → Hp → Prop) (b : Bool) (s' : Shared) : Prop := ∃ H', Inv X pins σ H' s' ∧ Q b H'
def AP (X : Cx) (pins : List (Addr × Obj)) (σ : St) (Q : List V → Hp → Prop) (us : List Value) (s' : Shared) : Prop := ∃ vs H', Inv X pins σ H' s' ∧ Vals vs us ∧ Q vs H'
def SP (X : Cx) (pins : List (Addr × Obj)) (D : Ends) (f : Flow) (s' : Shared) : Prop :=
 match f with
 | .next => ∃ σ' H', Inv X pins σ' H' s' ∧ D.nx σ' H'
 | .brk => ∃ σ' H', Inv X pins σ' H' s' ∧ D.bk σ' H'
 | .cont => ∃ σ' H', Inv X pins σ' H' s' ∧ D.ct σ' H'
 | .ret u => ∃ v σ' H', Inv X pins σ' H' s' ∧ RelV v u ∧ D.rt v H'
def PE (X : Cx) (e : Expr) (t : TE) : Prop :=
 ∀ (pins : List (Addr × Obj)) (s : Shared) (σ : St) (H : Hp) (Q : VK), Inv X pins σ H s → t σ H Q → wpAny (model X.prog X.w) X.A (eval e X.env) (EP X pins σ Q) X.xe s
def PT (X : Cx) (e : Expr) (t : TT) : Prop :=
 ∀ (pins : List (Addr × Obj)) (s : Shared) (σ : St) (H : Hp) (Q : Bool → Hp → Prop), Inv X pins σ H s → t σ H Q → wpAny (model X.prog X.w) X.A (isTrue e X.env (eval e X.env)) (TP X pins σ Q) X.xe s
def PW (X : Cx) (e : Expr) (t : TT) : Prop :=
 ∀ (whole : Sem Value) (pins : List (Addr × Obj)) (s : Shared) (σ : St) (H : Hp) (Q : Bool → Hp → Prop), Inv X pins σ H s → t σ H Q → wpAny (model X.prog X.w) X.A (isTrue e X.env whole) (TP X pins σ Q) X.xe s
theorem PW.pt {X : Cx} {e : Expr} {t : TT} (h : PW X e t) : PT X e t := h _
def PA (X : Cx) (es : List Expr) (t : TA) : Prop :=
 ∀ (pos : Pos) (pins : List (Addr × Obj)) (s : Shared) (σ : St) (H : Hp) (Q : List V → Hp → Prop), Inv X pins σ H s → t σ H Q → wpAny (model X.prog X.w) X.A (spliced (backTo pos (starEach es X.env))) (AP X pins σ Q) X.xe s
def PS (X : Cx) (st : Stmt) (t : TS) : Prop :=
 ∀ (pins : List (Addr × Obj)) (s : Shared) (σ : St) (H : Hp) (D : Ends), Inv X pins σ H s → t D σ H → wpAny (model X.prog X.w) X.A (exec st X.env) (SP X pins D) X.xe s
def PSs (X : Cx) (st : List Stmt) (t : TS) : Prop :=
 ∀ (pins : List (Addr × Obj)) (s : Shared) (σ : St) (H : Hp) (D : Ends), Inv X pins σ H s → t D σ H → wpAny (model X.prog X.w) X.A (execs st X.env) (SP X pins D) X.xe s
theorem thn {α : Type} {t : Sem α} {Q Q' : α → Shared → Prop} {M : Model} {A : Around} {E : Value → Shared → Prop} {s : Shared} (h : wpAny M A t Q E s) (hQ : ∀ a s, Q a s → Q' a s) : wpAny M A t Q' E s := wpAny_mono h hQ fun _ _ x => x
section
variable {X : Cx}
def tVar (i : Nat) : TE := fun σ H Q => ∃ v, σ[i]? = some (some v) ∧ Q v H
def tC (v : V) : TE := fun _ H Q => Q v H
theorem zlr {i : Nat} {x : Str} {pos : Pos} (hN : X.N[i]? = some x) (hv : Vis X.env.scope x) (hd : (x == ("__debug__" : Str)) = false := by decide) (hcd : (x == ("__classdict__" : Str)) = false := by decide) : PE X (.Name x pos) (tVar i) := by
 intro pins s σ H Q I h
 obtain ⟨v, e, h⟩ := h
 obtain ⟨m, hn, hl⟩ := I.loc
 obtain ⟨u, r, l⟩ := hl i x v hN e hv
 have fin : EP X pins σ Q u s := ⟨v, H, I, r, h⟩
 rcases l with ⟨hk, hm⟩ | ⟨hk, c, hc, hcell⟩
 · exact wpAny_Name (wpAny_loadName_local I.ok.kind hk hn hm fin) hd
 · rcases hk with hk | hk
   · exact wpAny_Name (wpAny_loadName_cell I.ok.kind hk hc hcell fin) hd
   · exact wpAny_Name (wpAny_loadName_free I.ok.kind hk hc hcell fin hcd) hd
theorem zaf {i j pos} : PE X (.Constant (.int i) j pos) (tC (.int i)) := fun _ _ _ H _ I h => wpAny_Constant_int ⟨.int i, H, I.tok _, ⟨_, rfl⟩, h⟩
theorem zcN {b j pos} : PE X (.Constant (.bool b) j pos) (tC (.bl b)) := fun _ _ _ H _ I h => Constant_bool ⟨.bl b, H, I, rfl, h⟩
theorem zbd {j pos} : PE X (.Constant .none j pos) (tC .non) := fun _ _ _ H _ I h => Constant_none ⟨.non, H, I, rfl, h⟩
theorem zaG {x j pos} : PE X (.Constant (.str x) j pos) (tC (.str x)) := fun _ _ _ H _ I h => Calls.Constant_str ⟨.str x, H, I.tok _, ⟨_, rfl⟩, h⟩
def Gl (X : Cx) (x : Str) : Prop := X.env.kindOf x = some .globalImplicit
theorem zd5 {E : Value → Shared → Prop} {pins : List (Addr × Obj)} {s : Shared} {σ : St} {H : Hp} {x : Str} {u : Value} {pos : Pos} {Q : Value → Shared → Prop} (I : Inv X pins σ H s) (hg : Gl X x) (hm : X.mg x = some u) (h : Q u s)
 (hd : (x == ("__debug__" : Str)) = false := by decide) : wpAny (model X.prog X.w) X.A (eval (.Name x pos) X.env) Q E s :=
 Calls.Name_function_global I.ok.kind hg (Calls.loadGlobal_global (by rw [I.ok.glob]; exact I.mod.glob.keeps I.bk) hm h) hd
theorem zcY {E : Value → Shared → Prop} {pins : List (Addr × Obj)} {s : Shared} {σ : St} {H : Hp} {x : Str} {u : Value} {pos : Pos} {Q : Value → Shared → Prop} (I : Inv X pins σ H s) (hg : Gl X x) (hm : X.mg x = none) (hv : bootBuiltins x = some u) (h : Q u s)
 (hn : x ≠ "__name__" := by decide) (hd : (x == ("__debug__" : Str)) = false := by decide) : wpAny (model X.prog X.w) X.A (eval (.Name x pos) X.env) Q E s := by
 obtain ⟨mb, h1, h2⟩ := I.mod.blt
 exact Calls.Name_function_global I.ok.kind hg (Calls.loadGlobal_builtin (by rw [I.ok.glob]; exact I.mod.glob.keeps I.bk) hm (by rw [I.ok.blt]; exact h1.keeps I.bk) ((h2 x hn).trans hv) h) hd
theorem zgr {x : Str} {v : V} {u : Value} {pos : Pos} (hg : Gl X x) (hm : X.mg x = some u) (r : RelV v u) (hd : (x == ("__debug__" : Str)) = false := by decide) : PE X (.Name x pos) (tC v) :=
 fun _ _ _ H _ I h => zd5 I hg hm ⟨v, H, I, r, h⟩ hd
theorem zaE {x : Str} {v : V} {u : Value} {pos : Pos} (hg : Gl X x) (hm : X.mg x = none) (hv : bootBuiltins x = some u) (r : RelV v u) (hn : x ≠ "__name__" := by decide) (hd : (x == ("__debug__" : Str)) = false := by decide) : PE X (.Name x pos) (tC v) :=
 fun _ _ _ H _ I h => zcY I hg hm hv ⟨v, H, I, r, h⟩ hn hd
variable {a b : Expr} {ta tb : TE} {pos : Pos}
def PC (X : Cx) (op : CmpOp) (a b : Expr) (t : TE) : Prop :=
 ∀ (pins : List (Addr × Obj)) (s : Shared) (σ : St) (H : Hp) (Q : VK), Inv X pins σ H s → t σ H Q →
  wpAny (model X.prog X.w) X.A (eval a X.env) (fun v s₁ => wpAny (model X.prog X.w) X.A (eval b X.env) (fun u s₂ => wpAny (model X.prog X.w) X.A (compareOp op v u) (EP X pins σ Q) X.xe s₂) X.xe s₁) X.xe s
theorem zhh (b : Expr) {op : CmpOp} (h : op ≠ .In) (h2 : op ≠ .NotIn) : behindInMarks op b = false := by
 have e1 : (op == CmpOp.In) = false := by cases op <;> first | rfl | exact absurd rfl h
 have e2 : (op == CmpOp.NotIn) = false := by cases op <;> first | rfl | exact absurd rfl h2
 cases b <;> simp [behindInMarks, e1, e2]
def tIsN (ta : TE) : TE := fun σ H Q => ta σ H fun x H1 => Q (.bl (decide (x = .non))) H1
def zkq (ta : TE) : TE := fun σ H Q => ta σ H fun x H1 => Q (.bl (!decide (x = .non))) H1
theorem RelV.none_iff {x : V} {v : Value} (r : RelV x v) : (v == Value.none) = decide (x = .non) := by
 cases x with
 | non => cases r; rfl
 | bl _ => cases r; rfl
 | int _ => obtain ⟨t, rfl⟩ := r; rfl
 | str _ => obtain ⟨t, rfl⟩ := r; rfl
 | byt _ => obtain ⟨t, rfl⟩ := r; rfl
 | flt _ => obtain ⟨t, rfl⟩ := r; rfl
 | ref _ => cases r; rfl
 | ty _ => cases r; rfl
theorem zb2 {j pos'} (ha : PE X a ta) : PC X .Is a (.Constant .none j pos') (tIsN ta) := by
 intro pins s σ H Q I h
 refine thn (ha pins s σ H _ I h) fun v s1 ⟨x, H1, I1, r1, q1⟩ => ?_
 exact Constant_none (is_none_gen ⟨.bl _, H1, I1, by rw [r1.none_iff]; rfl, q1⟩)
theorem za0 {j pos'} (ha : PE X a ta) : PC X .IsNot a (.Constant .none j pos') (zkq ta) := by
 intro pins s σ H Q I h
 refine thn (ha pins s σ H _ I h) fun v s1 ⟨x, H1, I1, r1, q1⟩ => ?_
 exact Constant_none (isnot_none_gen ⟨.bl _, H1, I1, by rw [r1.none_iff]; rfl, q1⟩)
def tB (t : TE) : TT := fun σ H Q => t σ H fun x H1 => ∃ c, x = .bl c ∧ Q c H1
theorem zbO {op : CmpOp} {t : TE} (h : PC X op a b t) (h1 : behindInMarks op b = false := by first | exact zhh _ (by decide) (by decide) | rfl) : PE X (.Compare a [op] [b] pos) t := fun pins s σ H Q I hw => wpAny_Compare1 (h pins s σ H Q I hw) h1
theorem zbH {op : CmpOp} {t : TE} (h : PC X op a b t) (h1 : behindInMarks op b = false := by first | exact zhh _ (by decide) (by decide) | rfl) : PT X (.Compare a [op] [b] pos) (tB t) := by
 intro pins s σ H Q I hw
 refine wpAny_isTrue_Compare1 (thn (h pins s σ H _ I hw) fun v s1 h1 => thn h1 fun u s2 h2 => thn h2 fun c s3 ⟨x, H1, I1, r1, q1⟩ => ?_) h1
 obtain ⟨d, rfl, q⟩ := q1
 cases r1
 exact wpAny_truthy_bool ⟨H1, I1, q⟩
theorem zaQ {e : Expr} {t : TE} (h : PE X e t) (he : ∀ whole, isTrue e X.env whole = (do let v ← whole; standAt e.pos; holding [v] (truthy v)) := by intro _; rfl) : PT X e (tB t) := by
 intro pins s σ H Q I hw
 refine isTrue_plain (thn (h pins s σ H _ I hw) fun v s1 ⟨x, H1, I1, r1, q1⟩ => ?_) (he _)
 obtain ⟨d, rfl, q⟩ := q1
 cases r1
 exact wpAny_truthy_bool ⟨H1, I1, q⟩
variable {tA tB' : TT} {rest : List Expr}
def tAnd (t u : TT) : TT := fun σ H Q => t σ H fun c H1 => if c = true then u σ H1 Q else Q false H1
def tOr (t u : TT) : TT := fun σ H Q => t σ H fun c H1 => if c = true then Q true H1 else u σ H1 Q
def tNot (t : TT) : TT := fun σ H Q => t σ H fun c H1 => Q (!c) H1
theorem zeU (ha : PT X a tA) : PW X (.BoolOp .And [a] pos) tA := by
 intro wh pins s σ H Q I h
 refine isTrue_and (thn (ha pins s σ H Q I h) fun c s1 e => ?_)
 cases c with
 | true => exact isTrue_and_nil e
 | false => exact e
theorem zcE (ha : PT X a tA) : PW X (.BoolOp .Or [a] pos) tA := by
 intro wh pins s σ H Q I h
 refine isTrue_or (thn (ha pins s σ H Q I h) fun c s1 e => ?_)
 cases c with
 | false => exact isTrue_or_nil e
 | true => exact e
theorem zfr (ha : PT X a tA) (hb : PW X (.BoolOp .And (b :: rest) pos) tB') : PW X (.BoolOp .And (a :: b :: rest) pos) (tAnd tA tB') := by
 intro wh pins s σ H Q I h
 refine isTrue_and (thn (ha pins s σ H _ I h) fun c s1 ⟨H1, I1, q1⟩ => ?_)
 cases c with
 | true => exact hb wh pins s1 σ H1 Q I1 q1
 | false => exact ⟨H1, I1, q1⟩
theorem zdR (ha : PT X a tA) (hb : PW X (.BoolOp .Or (b :: rest) pos) tB') : PW X (.BoolOp .Or (a :: b :: rest) pos) (tOr tA tB') := by
 intro wh pins s σ H Q I h
 refine isTrue_or (thn (ha pins s σ H _ I h) fun c s1 ⟨H1, I1, q1⟩ => ?_)
 cases c with
 | true => exact ⟨H1, I1, q1⟩
 | false => exact hb wh pins s1 σ H1 Q I1 q1
theorem zaS (ha : PT X a tA) : PT X (.UnaryOp .Not a pos) (tNot tA) := by
 intro pins s σ H Q I h
 exact isTrue_not (ha pins s σ H (fun c H1 => Q (!c) H1) I h)
def zku (ta tb : TE) : TE := fun σ H Q => ta σ H fun x H1 => ∃ c, x = .bl c ∧ if c = true then tb σ H1 Q else Q (.bl false) H1
def tOrV (ta tb : TE) : TE := fun σ H Q => ta σ H fun x H1 => ∃ c, x = .bl c ∧ if c = true then Q (.bl true) H1 else tb σ H1 Q
def zmc (ta : TE) : TE := fun σ H Q => ta σ H fun x H1 => ∃ c, x = .bl c ∧ Q (.bl (!c)) H1
theorem zaT {op} {t : TE} (h : PE X a t) : PE X (.BoolOp op [a] pos) t := fun pins s σ H Q I hw => BoolOp_one (h pins s σ H Q I hw)
theorem zbP (ha : PE X a ta) (hb : PE X (.BoolOp .And (b :: rest) pos) tb) : PE X (.BoolOp .And (a :: b :: rest) pos) (zku ta tb) := by
 intro pins s σ H Q I h
 refine BoolOp_and (thn (ha pins s σ H _ I h) fun v s1 ⟨x, H1, I1, r1, q1⟩ => ?_)
 obtain ⟨c, rfl, q1⟩ := q1
 cases r1
 refine wpAny_truthy_bool ?_
 cases c with
 | true => exact hb pins s1 σ H1 Q I1 q1
 | false => exact ⟨.bl false, H1, I1, rfl, q1⟩
theorem zft (ha : PE X a ta) (hb : PE X (.BoolOp .Or (b :: rest) pos) tb) : PE X (.BoolOp .Or (a :: b :: rest) pos) (tOrV ta tb) := by
 intro pins s σ H Q I h
 refine BoolOp_or (thn (ha pins s σ H _ I h) fun v s1 ⟨x, H1, I1, r1, q1⟩ => ?_)
 obtain ⟨c, rfl, q1⟩ := q1
 cases r1
 refine wpAny_truthy_bool ?_
 cases c with
 | false => exact hb pins s1 σ H1 Q I1 q1
 | true => exact ⟨.bl true, H1, I1, rfl, q1⟩
theorem zlu (ha : PE X a ta) : PE X (.UnaryOp .Not a pos) (zmc ta) := by
 intro pins s σ H Q I h
 refine UnaryOp_ (thn (ha pins s σ H _ I h) fun v s1 ⟨x, H1, I1, r1, q1⟩ => ?_)
 obtain ⟨c, rfl, q1⟩ := q1
 cases r1
 exact not_of (wpAny_truthy_bool ⟨.bl (!c), H1, I1, rfl, q1⟩)
def tIf (t : TT) (ta tb : TE) : TE := fun σ H Q => t σ H fun c H1 => if c = true then ta σ H1 Q else tb σ H1 Q
theorem zaY {c : Expr} (hc : PT X c tA) (ha : PE X a ta) (hb : PE X b tb) : PE X (.IfExp c a b pos) (tIf tA ta tb) := by
 intro pins s σ H Q I h
 refine wpAny_IfExp (thn (hc pins s σ H _ I h) fun d s1 ⟨H1, I1, q1⟩ => ?_)
 cases d with
 | true => exact ha pins s1 σ H1 Q I1 q1
 | false => exact hb pins s1 σ H1 Q I1 q1
end
def SqL (K : PySem.W.Frag) (H : Hp) (a : Addr) (xs : List V) : Prop :=
 Rd H a (.lst xs) ∨
  ∃ (o : Obj) (its : Array Value) (n : Nat), K.lookup a = some o ∧ o.cls = .type "list" ∧ o.dict = none ∧ o.data = .seq its n ∧ its.size ≤ sizeLine ∧ Vals xs its.toList
def SqT (K : PySem.W.Frag) (H : Hp) (a : Addr) (xs : List V) : Prop :=
 Rd H a (.tup xs) ∨
  ∃ (o : Obj) (its : Array Value) (n : Nat), K.lookup a = some o ∧ o.cls = .type "tuple" ∧ o.data = .seq its n ∧ its.size ≤ sizeLine ∧ Vals xs its.toList
def absV : Value → Option V
 | .none => some .non
 | .bool b => some (.bl b)
 | .int i _ => some (.int i)
 | .str x _ => some (.str x)
 | .bytes b _ => some (.byt b)
 | .float b _ => some (.flt b)
 | .ref a => some (.ref a)
 | .type n => some (.ty n)
 | _ => none
theorem RelV.abs {x : V} {u : Value} (r : RelV x u) : absV u = some x := by
 cases x with
 | non => cases r; rfl
 | bl _ => cases r; rfl
 | int _ => obtain ⟨t, rfl⟩ := r; rfl
 | str _ => obtain ⟨t, rfl⟩ := r; rfl
 | byt _ => obtain ⟨t, rfl⟩ := r; rfl
 | flt _ => obtain ⟨t, rfl⟩ := r; rfl
 | ref _ => cases r; rfl
 | ty _ => cases r; rfl
theorem RelV.inj {x y : V} {u : Value} (r : RelV x u) (q : RelV y u) : x = y := Option.some.inj (r.abs.symm.trans q.abs)
theorem Vals.inj : ∀ {xs ys : List V} {us : List Value}, Vals xs us → Vals ys us → xs = ys
 | _, _, _, .nil, .nil => rfl
 | _, _, _, .cons r t, .cons r' t' => by rw [r.inj r', Vals.inj t t']
section
variable {X : Cx} {pins : List (Addr × Obj)} {σ : St} {H : Hp} {s : Shared} {a : Addr} {xs ys : List V}
theorem SqL.of {K : PySem.W.Frag} (h : H a = some (.lst xs)) : SqL K H a xs := .inl (.inl h)
theorem SqT.of {K : PySem.W.Frag} (h : H a = some (.tup xs)) : SqT K H a xs := .inl (.inl h)
theorem Inv.list (I : Inv X pins σ H s) (h : SqL X.K H a xs) : ∃ its : List Value, Vals xs its ∧ PlainL s.heap a its.toArray ∧ xs.length ≤ sizeLine := by
 rcases h with h | ⟨o, its, n, hk, hc, hd, hs, hz, r⟩
 · obtain ⟨z, its, n, r, e⟩ := h.ok I.hok
   exact ⟨its, r, ⟨_, n, e, rfl, rfl, rfl⟩, z⟩
 · refine ⟨its.toList, r, ⟨o, n, I.kIn a o hk, hc, hd, by simpa using hs⟩, ?_⟩
   have e := r.length
   simp only [Array.length_toList] at e
   omega
theorem Inv.tuple (I : Inv X pins σ H s) (h : SqT X.K H a xs) : ∃ its : List Value, Vals xs its ∧ IsTup s.heap a its.toArray ∧ xs.length ≤ sizeLine := by
 rcases h with h | ⟨o, its, n, hk, hc, hs, hz, r⟩
 · obtain ⟨z, its, r, p⟩ := h.ok I.hok
   exact ⟨its, r, p.tup, z⟩
 · refine ⟨its.toList, r, ⟨o, I.kIn a o hk, hc, n, by simpa using hs⟩, ?_⟩
   have e := r.length
   simp only [Array.length_toList] at e
   omega
theorem Inv.list_inj (I : Inv X pins σ H s) (h : SqL X.K H a xs) (h' : SqL X.K H a ys) : xs = ys := by
 obtain ⟨its, r, ⟨o, n, e, _, _, d⟩, _⟩ := I.list h
 obtain ⟨its', r', ⟨o', n', e', _, _, d'⟩, _⟩ := I.list h'
 rw [e] at e'; cases e'
 rw [d] at d'
 injection d' with d1 _
 have : its = its' := by simpa using congrArg Array.toList d1
 subst this
 exact r.inj r'
theorem Inv.tuple_inj (I : Inv X pins σ H s) (h : SqT X.K H a xs) (h' : SqT X.K H a ys) : xs = ys := by
 obtain ⟨its, r, ⟨o, e, _, n, d⟩, _⟩ := I.tuple h
 obtain ⟨its', r', ⟨o', e', _, n', d'⟩, _⟩ := I.tuple h'
 rw [e] at e'; cases e'
 rw [d] at d'
 injection d' with d1 _
 have : its = its' := by simpa using congrArg Array.toList d1
 subst this
 exact r.inj r'
end
abbrev Cx.wish (X : Cx) (E : Value → Shared → Prop) : Cx := { X with xe := E }
abbrev Cx.nox (X : Cx) : Cx := X.wish fun _ _ => False
theorem Cx.Ok.wish {X : Cx} (ok : X.Ok) (E : Value → Shared → Prop) : (X.wish E).Ok :=
 ⟨ok.mod, ok.kind, ok.glob, ok.blt, ok.above, ok.inj, ok.has, ok.cab, ok.hd, ok.frames, ok.stk, ok.exf, ok.bs, ok.bsz, ok.noex, ok.exfs, ok.funs, ok.frf⟩
theorem Cx.Ok.unwish {X : Cx} {E : Value → Shared → Prop} (ok : (X.wish E).Ok) : X.Ok :=
 ⟨ok.mod, ok.kind, ok.glob, ok.blt, ok.above, ok.inj, ok.has, ok.cab, ok.hd, ok.frames, ok.stk, ok.exf, ok.bs, ok.bsz, ok.noex, ok.exfs, ok.funs, ok.frf⟩
section
variable {X : Cx} {pins : List (Addr × Obj)} {σ : St} {H : Hp} {s : Shared} {E : Value → Shared → Prop}
theorem Inv.wish (I : Inv X pins σ H s) (E : Value → Shared → Prop) : Inv (X.wish E) pins σ H s := ⟨I.ok.wish E, I.os, I.bare, I.base, I.loc, I.cell, I.free, I.freeC, I.pin, I.hok, I.len⟩
theorem Inv.unwish (I : Inv (X.wish E) pins σ H s) : Inv X pins σ H s := ⟨I.ok.unwish, I.os, I.bare, I.base, I.loc, I.cell, I.free, I.freeC, I.pin, I.hok, I.len⟩
theorem SP.unwish {D : Ends} {f : Flow} {s' : Shared} (h : SP (X.wish E) pins D f s') : SP X pins D f s' := by
 cases f with
 | next => obtain ⟨σ', H', I, q⟩ := h; exact ⟨σ', H', I.unwish, q⟩
 | brk => obtain ⟨σ', H', I, q⟩ := h; exact ⟨σ', H', I.unwish, q⟩
 | cont => obtain ⟨σ', H', I, q⟩ := h; exact ⟨σ', H', I.unwish, q⟩
 | ret u => obtain ⟨v, σ', H', I, r, q⟩ := h; exact ⟨v, σ', H', I.unwish, r, q⟩
theorem PSs.nox {st : List Stmt} {t : TS} (h : PSs X.nox st t) : PSs X st t := fun pins s σ H D I hw =>
 wpAny_mono (h pins s σ H D (I.wish _) hw) (fun _ _ q => q.unwish) fun _ _ z => False.elim z
end
section
variable {X : Cx} {st : Stmt} {rest : List Stmt} {t u : TS} {e : Expr} {te : TE} {pos : Pos}
def zmd : TS := fun D σ H => D.nx σ H
def tSeq (t u : TS) : TS := fun D σ H => t { D with nx := u D } σ H
theorem zaq : PSs X [] zmd := fun _ _ σ H _ I h => wpAny_execs_nil ⟨σ, H, I, h⟩
theorem zad (h1 : PS X st t) (h2 : PSs X rest u) : PSs X (st :: rest) (tSeq t u) := by
 intro pins s σ H D I h
 refine wpAny_execs_cons (thn (h1 pins s σ H { D with nx := u D } I h) fun f s1 q => ?_)
 cases f with
 | next =>
  obtain ⟨σ', H', I', q⟩ := q
  exact h2 pins s1 σ' H' D I' q
 | ret v => exact q
 | brk => exact q
 | cont => exact q
theorem zah (h1 : PS X st t) : PSs X [st] t := by
 intro pins s σ H D I h
 refine wpAny_execs_cons (thn (h1 pins s σ H D I h) fun f s1 q => ?_)
 cases f with
 | next => exact wpAny_execs_nil q
 | ret v => exact q
 | brk => exact q
 | cont => exact q
theorem Inv.quiet {pins : List (Addr × Obj)} {σ : St} {H : Hp} {s : Shared} (I : Inv X pins σ H s) : interactive X.env = false := by simp [interactive, I.ok.kind]
def zmf (te : TE) : TS := fun D σ H => te σ H fun _ H1 => D.nx σ H1
theorem zaM (he : PE X e te) (hs : swapsWith e none pos.line X.env = pure false := by rfl) : PS X (.Expr e pos) (zmf te) := by
 intro pins s σ H D I h
 exact wpAny_Expr_any (thn (he pins s σ H _ I h) fun v s1 ⟨x, H1, I1, r1, q1⟩ => ⟨σ, H1, I1, q1⟩) I.quiet hs
def tRet (te : TE) : TS := fun D σ H => te σ H D.rt
theorem zaj (he : PE X e te) : PS X (.Return (some e) pos) (tRet te) := by
 intro pins s σ H D I h
 exact wpAny_Return_some (thn (he pins s σ H _ I h) fun v s1 ⟨x, H1, I1, r1, q1⟩ => ⟨x, σ, H1, I1, r1, q1⟩)
def tIfS (c : TT) (t u : TS) : TS := fun D σ H => c σ H fun b H1 => if b = true then t D σ H1 else u D σ H1
theorem zaI {c : Expr} {a b : List Stmt} {tc : TT} (hc : PT X c tc) (ha : PSs X a t) (hb : PSs X b u) : PS X (.If c a b pos) (tIfS tc t u) := by
 intro pins s σ H D I h
 refine wpAny_If (thn (hc pins s σ H _ I h) fun d s1 ⟨H1, I1, q1⟩ => ?_)
 cases d with
 | true => exact ha pins s1 σ H1 D I1 q1
 | false => exact hb pins s1 σ H1 D I1 q1
def zlf : TS := fun _ _ _ => False
theorem zhc : PS X st zlf := fun _ _ _ _ _ _ h => h.elim
end
abbrev TG := V → St → Hp → (St → Hp → Prop) → Prop
abbrev TGs := List V → St → Hp → (St → Hp → Prop) → Prop
def PG (X : Cx) (target : Expr) (t : TG) : Prop :=
 ∀ (pins : List (Addr × Obj)) (s : Shared) (σ : St) (H : Hp) (v : V) (u : Value) (Q : St → Hp → Prop), Inv X pins σ H s → RelV v u → t v σ H Q →
  wpAny (model X.prog X.w) X.A (assign target X.env u) (fun _ s' => ∃ σ' H', Inv X pins σ' H' s' ∧ Q σ' H') X.xe s
def PGs (X : Cx) (ts : List Expr) (t : TGs) : Prop :=
 ∀ (pins : List (Addr × Obj)) (s : Shared) (σ : St) (H : Hp) (vs : List V) (us : List Value) (Q : St → Hp → Prop), Inv X pins σ H s → Vals vs us → t vs σ H Q →
  wpAny (model X.prog X.w) X.A (assignInOrder ((assignEach ts X.env).map (·.2)) us) (fun _ s' => ∃ σ' H', Inv X pins σ' H' s' ∧ Q σ' H') X.xe s
abbrev TSet := V → V → V → Hp → (Hp → Prop) → Prop
def PSet (X : Cx) (t : TSet) : Prop :=
 ∀ (pins : List (Addr × Obj)) (s : Shared) (σ : St) (H : Hp) (o i v : V) (ov iv u : Value) (Q : Hp → Prop), Inv X pins σ H s → RelV o ov → RelV i iv → RelV v u → t o i v H Q →
  wpAny (model X.prog X.w) X.A (setItem ov iv u) (fun _ s' => ∃ H', Inv X pins σ H' s' ∧ Q H') X.xe s
section
variable {X : Cx} {pos : Pos}
def zhS (i : Nat) : TG := fun v σ H Q => Q (σ.set i (some v)) H
theorem zai {i : Nat} {x : Str} (hN : X.N.Nodup) (hi : X.N[i]? = some x) (hx : Loc X.env.scope x) (hf : X.fn x = true ∨ X.env.scope.names.lookup x = some .local := by first | exact .inl rfl | exact .inr rfl | assumption) : PG X (.Name x pos) (zhS i) := by
 intro pins s σ H v u Q I r h
 exact wpAny_assign_Name (zg5 I hN hi hx r (fun s' I' => ⟨_, H, I', h⟩) hf)
def gNil : TGs := fun vs σ H Q => vs = [] ∧ Q σ H
def zms (t : TG) (u : TGs) : TGs := fun vs σ H Q => ∃ v r, vs = v :: r ∧ t v σ H fun σ' H' => u r σ' H' Q
theorem zaR : PGs X [] gNil := by
 intro pins s σ H vs us Q I r h
 obtain ⟨e, h⟩ := h
 subst e
 cases r
 exact assignInOrder_nil ⟨σ, H, I, h⟩
theorem zam {e : Expr} {es : List Expr} {t : TG} {u : TGs} (h1 : PG X e t) (h2 : PGs X es u)
 (hs : (assignEach (e :: es) X.env).map (·.2) = assign e X.env :: (assignEach es X.env).map (·.2) := by rfl) : PGs X (e :: es) (zms t u) := by
 intro pins s σ H vs us Q I r h
 obtain ⟨v, vr, e1, h⟩ := h
 subst e1
 cases r with
 | cons r rr =>
  rw [hs]
  refine assignInOrder_cons (thn (h1 pins s σ H _ _ _ I r h) fun _ s1 ⟨σ1, H1, I1, q1⟩ => ?_)
  exact h2 pins s1 σ1 H1 _ _ Q I1 rr q1
def gTup (K : PySem.W.Frag) (n : Nat) (t : TGs) : TG := fun v σ H Q => ∃ a xs, v = .ref a ∧ SqT K H a xs ∧ xs.length = n ∧ t xs σ H Q
theorem zb1 {es : List Expr} {k : Nat} {t : TGs} {n : Nat} (hc : X.calm = true) (h : PGs X es t)
 (hn : (assignEach es X.env).length = n := by rfl) (hst : (assignEach es X.env).findIdx? (·.1) = none := by rfl) : PG X (.Tuple es k pos) (gTup X.K n t) := by
 intro pins s σ H v u Q I r hw
 obtain ⟨a, xs, e1, hq, hl, hw⟩ := hw
 subst e1
 cases r
 obtain ⟨its, rv, ht, hz⟩ := I.tuple hq
 refine assign_Tuple_tuple (I.ok.hd hc) ht (by simp [hn, ← hl, rv.length]) hst fun h' hx => ?_
 have I1 : Inv X pins σ H { s with heap := h' } := I.kept (t' := s.toks) fun b o e => hx b o (Nat.ne_of_lt (Heap.lt_size e)) e
 exact h pins _ σ H xs _ Q I1 (by simpa using rv) hw
def gSub (to ti : TE) (t : TSet) : TG := fun v σ H Q => to σ H fun o H1 => ti σ H1 fun i H2 => t o i v H2 fun H3 => Q σ H3
theorem zit {o i : Expr} {to ti : TE} {t : TSet} (ho : PE X o to) (hi : PE X i ti) (hs : PSet X t)
 (ha : ∀ v, assign (.Subscript o i pos) X.env v = (do
  let ov ← holding [v] (eval o X.env)
  let iv ← holding [v, ov] (eval i X.env)
  standAt pos
  holding [v, ov, iv] (setItem ov iv v)
  release [v, ov, iv] []) := by intro _; rfl) : PG X (.Subscript o i pos) (gSub to ti t) := by
 intro pins s σ H v u Q I r h
 rw [ha]
 refine wpAny_bind (wpAny_holding (thn (ho pins s σ H _ I h) fun ov s1 ⟨x, H1, I1, r1, q1⟩ => ?_))
 refine wpAny_bind (wpAny_holding (thn (hi pins s1 σ H1 _ I1 q1) fun iv s2 ⟨y, H2, I2, r2, q2⟩ => ?_))
 refine wpAny_bind (wpAny_standAt (wpAny_bind (wpAny_holding (thn (hs pins s2 σ H2 x y v ov iv u _ I2 r1 r2 r q2) fun _ s3 ⟨H3, I3, q3⟩ => ?_))))
 exact wpAny_release ⟨σ, H3, I3, q3⟩
def tAsg (te : TE) (g : TG) : TS := fun D σ H => te σ H fun x H1 => g x σ H1 D.nx
theorem zb0 {tg e : Expr} {te : TE} {g : TG} (he : PE X e te) (hg : PG X tg g) (hs : swapsWithSole [tg] e pos.line X.env = pure false := by rfl) (hw : swappedStores [tg] e X.env = pure none := by rfl)
 (h1 : (assignEach [tg] X.env).map (·.2) = [assign tg X.env] := by rfl) : PS X (.Assign [tg] e pos) (tAsg te g) := by
 intro pins s σ H D I h
 refine wpAny_Assign_stores (thn (he pins s σ H _ I h) fun v s1 ⟨x, H1, I1, r1, q1⟩ => ?_) hs hw
 rw [h1]
 exact thn (hg pins s1 σ H1 x v _ I1 r1 q1) fun _ s2 q => q
theorem zaw {i : Nat} {x : Str} {e : Expr} {te : TE} {pos' : Pos} (hN : X.N.Nodup) (hi : X.N[i]? = some x) (hx : Loc X.env.scope x) (he : PE X e te) (hs : swapsWith e (some (.Name x pos')) pos.line X.env = pure false := by rfl) (hf : X.fn x = true ∨ X.env.scope.names.lookup x = some .local := by first | exact .inl rfl | exact .inr rfl | assumption) :
 PS X (.Assign [.Name x pos'] e pos) (tAsg te (zhS i)) := by
 intro pins s σ H D I h
 refine wpAny_Assign_Name (thn (he pins s σ H _ I h) fun v s1 ⟨y, H1, I1, r1, q1⟩ => ?_) hs
 exact zg5 I1 hN hi hx r1 (fun s2 I2 => ⟨_, H1, I2, q1⟩) hf
end
section
variable {X : Cx} {pos : Pos}
def zj1 (c : TT) (tb : TS) : TS := fun D σ H => ∃ W : Nat → St → Hp → Prop, (∃ m, W m σ H) ∧ ∀ m σ H, W m σ H →
 c σ H fun b H1 => if b = true then ∃ N : St → Hp → Prop, (∀ σ' H', N σ' H' → ∃ m', m' < m ∧ W m' σ' H') ∧ tb { D with nx := N, ct := N, bk := D.nx } σ H1 else D.nx σ H1
theorem zjz {c : Expr} {body : List Stmt} {tc : TT} {tb : TS} (hp : PassesOwn (model X.prog X.w) X.A X.env X.xe) (hc : PT X c tc) (hb : PSs X body tb) : PS X (.While c body [] pos) (zj1 tc tb) := by
 intro pins s σ H D I h
 obtain ⟨W, ⟨m0, w0⟩, turn⟩ := h
 refine wpAny_While (codeAny_whileLoop (fun n s' => ∃ σ' H', Inv X pins σ' H' s' ∧ W n σ' H') ?_ m0 ⟨σ, H, I, w0⟩)
 rintro n s1 ⟨σ1, H1, I1, w1⟩
 refine wpAny_passesOwn hp (thn (hc pins s1 σ1 H1 _ I1 (turn n σ1 H1 w1)) fun b s2 ⟨H2, I2, q2⟩ => ?_)
 cases b with
 | true =>
  obtain ⟨N, hN, q2⟩ := q2
  rw [if_pos rfl]
  refine wpAny_passesOwn hp (thn (hb pins s2 σ1 H2 _ I2 q2) fun f s3 q3 => ?_)
  cases f with
  | next =>
   obtain ⟨σ3, H3, I3, n3⟩ := q3
   obtain ⟨m', hm, w3⟩ := hN σ3 H3 n3
   exact ⟨m', hm, σ3, H3, I3, w3⟩
  | cont =>
   obtain ⟨σ3, H3, I3, n3⟩ := q3
   obtain ⟨m', hm, w3⟩ := hN σ3 H3 n3
   exact ⟨m', hm, σ3, H3, I3, w3⟩
  | brk => exact q3
  | ret v => exact q3
 | false =>
  rw [if_neg Bool.false_ne_true]
  exact wpAny_execs_nil ⟨σ1, H2, I2, q2⟩
end
structure It where
 go : Nat → Hp → Prop
 yld : Nat → Hp → V → Hp → Prop
 stop : Nat → Hp → Prop
def FpOk (X : Cx) (pins : List (Addr × Obj)) (H : Hp) (b : Addr) : Prop :=
 H b = none ∧ b ≠ X.env.locals ∧ b ∉ X.fs ∧ (b ∈ X.ex ∨ X.s₀.heap.objs.size ≤ b) ∧ (∀ x c, X.env.cells.lookup x = some c → c ≠ b) ∧ ∀ p ∈ X.pn ++ pins, p.1 ≠ b
theorem Inv.fpOk {X : Cx} {pins : List (Addr × Obj)} {σ : St} {H H' : Hp} {s : Shared} {b : Addr} (I : Inv X pins σ H s) (hb : s.heap.objs.size ≤ b) (hn : H' b = none) : FpOk X pins H' b := by
 refine ⟨hn, Nat.ne_of_gt (Nat.lt_of_lt_of_le I.lt hb), I.nofs hb, .inr (Nat.le_trans I.sz hb), fun x c e z => ?_, fun p hp z => ?_⟩
 · obtain ⟨v, q⟩ := I.cell x c e
   exact absurd (Nat.lt_of_lt_of_le q.lt (by rw [z]; exact hb)) (Nat.lt_irrefl _)
 · exact absurd (Nat.lt_of_lt_of_le (Heap.lt_size (I.pin p hp).1) (by rw [z]; exact hb)) (Nat.lt_irrefl _)
structure Turn (P : Program) (w : World) (K : PySem.W.Frag) (tg : Expr) (J : It) (fp : List Addr) (it : Addr) (tn : Nat → Heap → Prop) : Prop where
 mem : it ∈ fp
 obj : ∀ i h, tn i h → ∀ b ∈ fp, ∃ o, h.get? b = some o ∧ ∀ v, o.data ≠ .cell v
 keep : ∀ i h h', tn i h → (∀ b ∈ fp, ∀ o, h.get? b = some o → h'.get? b = some o) → tn i h'
 item : ∀ (X : Cx), X.prog = P → X.w = w → X.K = K → X.calm = true → ∀ (i : Nat) (pins : List (Addr × Obj)) (s : Shared) (σ : St) (H : Hp) (E : Value → Shared → Prop), Inv X pins σ H s → (∀ b ∈ fp, FpOk X pins H b) → tn i s.heap → J.go i H →
  wpAny (model P w) X.A (pyNext (.ref it)) (fun r s1 => ∃ u, r = some u ∧
   wpAny (model P w) X.A (letOwnedTupleGo tg (.ref it) u) (fun _ s2 => ∃ x H', Inv X pins σ H' s2 ∧ RelV x u ∧ J.yld i H x H' ∧ tn (i + 1) s2.heap ∧ ∀ b ∈ fp, H' b = none) E s1) E s
 done : ∀ (X : Cx), X.prog = P → X.w = w → X.K = K → X.calm = true → ∀ (i : Nat) (pins : List (Addr × Obj)) (s : Shared) (σ : St) (H : Hp) (E : Value → Shared → Prop), Inv X pins σ H s → (∀ b ∈ fp, FpOk X pins H b) → tn i s.heap → J.stop i H →
  wpAny (model P w) X.A (pyNext (.ref it)) (fun r s1 => r = none ∧ Inv X pins σ H s1) E s
 self : ∀ (A : Around) (i : Nat) (s : Shared) (Q : Value → Shared → Prop) (E : Value → Shared → Prop), tn i s.heap → Q (.ref it) s → wpAny (model P w) A (pyIter (.ref it)) Q E s
abbrev TI := St → Hp → (It → Hp → Prop) → Prop
def PIE (X : Cx) (pins : List (Addr × Obj)) (σ : St) (tg : Expr) (R : It → Hp → Prop) (itv : Value) (s2 : Shared) : Prop :=
 ∃ (it : Addr) (fp : List Addr) (tn : Nat → Heap → Prop) (J : It) (H' : Hp), itv = .ref it ∧ Inv X pins σ H' s2 ∧ Turn X.prog X.w X.K tg J fp it tn ∧ tn 0 s2.heap ∧ (∀ b ∈ fp, FpOk X pins H' b) ∧ R J H'
def PI (X : Cx) (tg iter : Expr) (wi : TI) : Prop :=
 ∀ (pins : List (Addr × Obj)) (s : Shared) (σ : St) (H : Hp) (R : It → Hp → Prop), Inv X pins σ H s → wi σ H R →
  wpAny (model X.prog X.w) X.A (eval iter X.env) (fun v s1 => wpAny (model X.prog X.w) X.A (pyIter v) (PIE X pins σ tg R) X.xe s1) X.xe s
theorem zi5 {M : Model} {A : Around} {E : Value → Shared → Prop} {s : Shared} {tg : Expr} {it : Addr} {u : Value} {o : Obj} {n : String} {vs : Array Value} {Q : Unit → Shared → Prop} (ho : s.heap.get? it = some o) (hc : o.cls = .type n) (hd : o.data = .fields vs)
 (hn : ["enumerate", "zip", "dict_itemiterator", "dict_reverseitemiterator", "odict_iterator", "itertools.zip_longest", "itertools.pairwise"].contains n = false) (hQ : Q () s) : wpAny M A (letOwnedTupleGo tg (.ref it) u) Q E s := by
 unfold letOwnedTupleGo
 cases tg <;> first
  | exact wpAny_pure hQ
  | (cases u <;> first
   | exact wpAny_pure hQ
   | (refine wpAny_bind (wpAny_load ho ?_)
      rw [hc, hd]
      show wpAny M A (if (["enumerate", "zip", "dict_itemiterator", "dict_reverseitemiterator", "odict_iterator", "itertools.zip_longest", "itertools.pairwise"].contains n && vs[0]? == some (rawInt _)) = true then _ else _) Q E s
      rw [if_neg (by intro h; rw [hn, Bool.false_and] at h; cases h)]
      exact wpAny_pure hQ))
def Itl (K : PySem.W.Frag) (a : Addr) : It :=
 ⟨fun i H => ∃ xs x, SqL K H a xs ∧ xs[i]? = some x, fun i H x H' => H' = H ∧ ∀ xs, SqL K H a xs → xs[i]? = some x, fun i H => ∃ xs, SqL K H a xs ∧ xs.length ≤ i⟩
def Itt (K : PySem.W.Frag) (a : Addr) : It :=
 ⟨fun i H => ∃ xs x, SqT K H a xs ∧ xs[i]? = some x, fun i H x H' => H' = H ∧ ∀ xs, SqT K H a xs → xs[i]? = some x, fun i H => ∃ xs, SqT K H a xs ∧ xs.length ≤ i⟩
def Itr (lo : Int) (n : Nat) : It := ⟨fun i _ => i < n, fun i H x H' => H' = H ∧ x = .int (lo + i), fun i _ => n ≤ i⟩
theorem zh0 {P : Program} {w : World} {K : PySem.W.Frag} {tg : Expr} (a it : Addr) : Turn P w K tg (Itl K a) [it] it (fun i h => h.IsListIter it a i) where
 mem := by simp
 obj := fun i h st b hb => by
  have e : b = it := by simpa using hb
  subst e
  obtain ⟨o, e, c, d⟩ := st
  exact ⟨o, e, fun v z => by rw [d] at z; cases z⟩
 keep := fun i h h' st k => st.at fun o e => k it (by simp) o e
 item := by
  intro X hP hw hK hc i pins s σ H E I hf st hg
  subst hP hw hK
  obtain ⟨xs, x, hq, hx⟩ := hg
  obtain ⟨its, rv, p, hz⟩ := I.list hq
  obtain ⟨u, hu, ru⟩ := rv.get hx
  obtain ⟨f0, f1, f2, f3, f4, f5⟩ := hf it (by simp)
  refine wpAny_pyNext_list_item st p.isList (x := u) (by simpa using hu) fun h' st' sb => ?_
  have I1 : Inv X pins σ H { s with heap := h' } := I.turned (t' := s.toks) (fun b o hb e => (sb.2 b hb).trans e) f0 f1 f3 f4 f5
  obtain ⟨o, e, c, d⟩ := id st'
  exact ⟨u, rfl, zi5 (s := { s with heap := h' }) e c d (by decide) ⟨x, H, I1, ru, ⟨rfl, fun ys hy => by rw [I.list_inj hy hq]; exact hx⟩, st', fun b hb => (hf b hb).1⟩⟩
 done := by
  intro X hP hw hK hc i pins s σ H E I hf st hg
  subst hP hw hK
  obtain ⟨xs, hq, hx⟩ := hg
  obtain ⟨its, rv, p, hz⟩ := I.list hq
  obtain ⟨f0, f1, f2, f3, f4, f5⟩ := hf it (by simp)
  have hl := rv.length
  exact wpAny_pyNext_list_end (I.ok.hd hc) st p.isList (by simp; omega) fun h' eb => ⟨rfl, I.turned (t' := s.toks) (fun b o hb e => eb b o hb e) f0 f1 f3 f4 f5⟩
 self := fun _ _ _ _ _ st h => wpAny_pyIter_listiter st h
theorem zhv {P : Program} {w : World} {K : PySem.W.Frag} {tg : Expr} (a it : Addr) : Turn P w K tg (Itt K a) [it] it (fun i h => h.IsTupleIter it a i) where
 mem := by simp
 obj := fun i h st b hb => by
  have e : b = it := by simpa using hb
  subst e
  obtain ⟨o, e, c, d⟩ := st
  exact ⟨o, e, fun v z => by rw [d] at z; cases z⟩
 keep := fun i h h' st k => st.at fun o e => k it (by simp) o e
 item := by
  intro X hP hw hK hc i pins s σ H E I hf st hg
  subst hP hw hK
  obtain ⟨xs, x, hq, hx⟩ := hg
  obtain ⟨its, rv, p, hz⟩ := I.tuple hq
  obtain ⟨u, hu, ru⟩ := rv.get hx
  obtain ⟨f0, f1, f2, f3, f4, f5⟩ := hf it (by simp)
  refine wpAny_pyNext_tuple_item st (show s.heap.IsTuple a its.toArray from p) (x := u) (by simpa using hu) fun h' st' sb => ?_
  have I1 : Inv X pins σ H { s with heap := h' } := I.turned (t' := s.toks) (fun b o hb e => (sb.2 b hb).trans e) f0 f1 f3 f4 f5
  obtain ⟨o, e, c, d⟩ := id st'
  exact ⟨u, rfl, zi5 (s := { s with heap := h' }) e c d (by decide) ⟨x, H, I1, ru, ⟨rfl, fun ys hy => by rw [I.tuple_inj hy hq]; exact hx⟩, st', fun b hb => (hf b hb).1⟩⟩
 done := by
  intro X hP hw hK hc i pins s σ H E I hf st hg
  subst hP hw hK
  obtain ⟨xs, hq, hx⟩ := hg
  obtain ⟨its, rv, p, hz⟩ := I.tuple hq
  obtain ⟨f0, f1, f2, f3, f4, f5⟩ := hf it (by simp)
  have hl := rv.length
  exact wpAny_pyNext_tuple_end (I.ok.hd hc) st (show s.heap.IsTuple a its.toArray from p) (by simp; omega) fun h' eb => ⟨rfl, I.turned (t' := s.toks) (fun b o hb e => eb b o hb e) f0 f1 f3 f4 f5⟩
 self := fun _ _ _ _ _ st h => wpAny_pyIter_tupleiter st h
theorem zhw {P : Program} {w : World} {K : PySem.W.Frag} {tg : Expr} (it : Addr) (lo : Int) (n : Nat) : Turn P w K tg (Itr lo n) [it] it (fun i h => IsRangeIter h it (lo + (i : Nat) * 1) ((n : Int) - (i : Nat)) 1) where
 mem := by simp
 obj := fun i h st b hb => by
  have e : b = it := by simpa using hb
  subst e
  exact ⟨_, st, fun v z => by
   have z' : Data.fields _ = Data.cell v := z
   cases z'⟩
 keep := fun i h h' st k => k it (by simp) _ st
 item := by
  intro X hP hw hK hc i pins s σ H E I hf st hg
  subst hP hw hK
  obtain ⟨f0, f1, f2, f3, f4, f5⟩ := hf it (by simp)
  have W := Walks.range (prog := X.prog) (w := X.w) (I.ok.hd hc) it lo 1 n
  refine W.item i s _ _ hg st fun v h' tk hv st' kk => ?_
  obtain ⟨t, rfl⟩ := hv
  have I1 : Inv X pins σ H { s with heap := h', toks := tk } := I.turned (fun b o hb e => kk b o (by simpa using hb) e) f0 f1 f3 f4 f5
  refine ⟨_, rfl, zi5 (s := { s with heap := h', toks := tk }) (n := "range_iterator") st' rfl rfl (by decide) ⟨.int (lo + i), H, I1, ⟨t, ?_⟩, ⟨rfl, rfl⟩, st', fun b hb => (hf b hb).1⟩⟩
  rw [Int.mul_one]
 done := by
  intro X hP hw hK hc i pins s σ H E I hf st hg
  subst hP hw hK
  obtain ⟨f0, f1, f2, f3, f4, f5⟩ := hf it (by simp)
  exact wpAny_pyNext_range_end (I.ok.hd hc) st (by have : n ≤ i := hg; omega) fun h' eb => ⟨rfl, I.turned (t' := s.toks) (fun b o hb e => eb b o hb e) f0 f1 f3 f4 f5⟩
 self := fun _ _ _ _ _ st h => wpAny_pyIter_rangeiter st h
section
variable {X : Cx} {tg : Expr}
def zmp (K : PySem.W.Frag) (tl : TE) : TI := fun σ H R => tl σ H fun x H1 => ∃ a, x = .ref a ∧ (∃ xs, SqL K H1 a xs) ∧ R (Itl K a) H1
def iTup (K : PySem.W.Frag) (tl : TE) : TI := fun σ H R => tl σ H fun x H1 => ∃ a, x = .ref a ∧ (∃ xs, SqT K H1 a xs) ∧ R (Itt K a) H1
theorem zc8 {l : Expr} {tl : TE} (hl : PE X l tl) : PI X tg l (zmp X.K tl) := by
 intro pins s σ H R I h
 refine thn (hl pins s σ H _ I h) fun v s1 ⟨x, H1, I1, r1, q1⟩ => ?_
 obtain ⟨a, e, ⟨xs, hq⟩, q⟩ := q1
 subst e
 cases r1
 obtain ⟨its, rv, p, hz⟩ := I1.list hq
 refine wpAny_pyIter_list p.isList ?_
 refine ⟨s1.heap.objs.size, [s1.heap.objs.size], _, _, H1, rfl, I1.kept (t' := s1.toks) fun b o e => Heap.get?_push_of_some _ e, zh0 a _, ⟨_, Heap.get?_push_size _ rfl, rfl, rfl⟩, fun b hb => ?_, q⟩
 have e : b = s1.heap.objs.size := by simpa using hb
 subst e
 exact I1.fpOk (Nat.le_refl _) (I1.hok.fresh (Nat.le_refl _))
theorem zce {l : Expr} {tl : TE} (hl : PE X l tl) : PI X tg l (iTup X.K tl) := by
 intro pins s σ H R I h
 refine thn (hl pins s σ H _ I h) fun v s1 ⟨x, H1, I1, r1, q1⟩ => ?_
 obtain ⟨a, e, ⟨xs, hq⟩, q⟩ := q1
 subst e
 cases r1
 obtain ⟨its, rv, p, hz⟩ := I1.tuple hq
 refine wpAny_pyIter_tuple (show s1.heap.IsTuple a its.toArray from p) ?_
 refine ⟨s1.heap.objs.size, [s1.heap.objs.size], _, _, H1, rfl, I1.kept (t' := s1.toks) fun b o e => Heap.get?_push_of_some _ e, zhv a _, ⟨_, Heap.get?_push_size _ rfl, rfl, rfl⟩, fun b hb => ?_, q⟩
 have e : b = s1.heap.objs.size := by simpa using hb
 subst e
 exact I1.fpOk (Nat.le_refl _) (I1.hok.fresh (Nat.le_refl _))
theorem zjx {pins : List (Addr × Obj)} {σ : St} {H : Hp} {s : Shared} {R : It → Hp → Prop} {E : Value → Shared → Prop} {lo hi : Int} {t u v : Tok} {tk : Nat} (I : Inv X pins σ H s) (h1 : -(2 ^ 62) ≤ lo) (h2 : lo < 2 ^ 62) (h3 : -(2 ^ 62) ≤ hi) (h4 : hi < 2 ^ 62)
 (q : R (Itr lo (hi - lo).toNat) H) : wpAny (model X.prog X.w) X.A (pyIter (.ref s.heap.objs.size)) (PIE X pins σ tg R) E { s with heap := s.heap.push { cls := .type "range", data := .fields #[.int lo t, .int hi u, .int 1 v] }, toks := tk } := by
 refine wpAny_pyIter_range (IsRange.new ..) (small_one h1 h2 h3 h4) ?_
 have I1 : Inv X pins σ H { s with heap := s.heap.push { cls := .type "range", data := .fields #[.int lo t, .int hi u, .int 1 v] }, toks := tk } := I.kept fun b o e => Heap.get?_push_of_some _ e
 refine ⟨(s.heap.push { cls := .type "range", data := .fields #[.int lo t, .int hi u, .int 1 v] }).objs.size, [(s.heap.push { cls := .type "range", data := .fields #[.int lo t, .int hi u, .int 1 v] }).objs.size], _, _, H, rfl,
  I1.kept (t' := tk) fun b o e => Heap.get?_push_of_some _ e, zhw _ lo (hi - lo).toNat, ?_, fun b hb => ?_, q⟩
 · have e1 : lo + ((0 : Nat) : Int) * 1 = lo := by simp
   have e2 : (((hi - lo).toNat : Nat) : Int) - ((0 : Nat) : Int) = Builtin.Range.rangeSize lo hi 1 := by rw [rangeSize_one]; split <;> omega
   show IsRangeIter _ _ (lo + ((0 : Nat) : Int) * 1) ((((hi - lo).toNat : Nat) : Int) - ((0 : Nat) : Int)) 1
   rw [e1, e2]
   exact Heap.get?_push_size _ rfl
 · have e : b = (s.heap.push { cls := .type "range", data := .fields #[.int lo t, .int hi u, .int 1 v] }).objs.size := by simpa using hb
   subst e
   exact I1.fpOk (Nat.le_refl _) (I1.hok.fresh (Nat.le_refl _))
def zmo (ta : TA) : TI := fun σ H R => ta σ H fun vs H1 => ∃ j : Int, vs = [.int j] ∧ -(2 ^ 62) ≤ j ∧ j < 2 ^ 62 ∧ R (Itr 0 j.toNat) H1
theorem zcj {a : Expr} {ta : TA} {p pos : Pos} (hg : Gl X "range") (hm : X.mg "range" = none) (ha : PA X [a] ta) (hs : starEach [a] X.env = [(false, eval a X.env)] := by rfl) : PI X tg (.Call (.Name "range" p) [a] [] pos) (zmo ta) := by
 intro pins s σ H R I h
 refine Call_ (zcY I hg hm boot_range (PyProof.Rows.callWith_type1 (thn (ha pos pins s σ H _ I h) fun us s1 ⟨vs, H1, I1, r1, q1⟩ => ?_) hs rfl))
 obtain ⟨j, e, q1, q2, q⟩ := q1
 subst e
 cases r1 with
 | cons r rr =>
  cases rr
  obtain ⟨t, rfl⟩ := r
  exact call_range_1 (zjx I1 (by omega) (by omega) q1 q2 (by simpa using q))
def tFor (wi : TI) (g : TG) (tb : TS) : TS := fun D σ H => wi σ H fun J H1 => ∃ W : Nat → Nat → St → Hp → Prop, (∃ m, W 0 m σ H1) ∧ ∀ i m σ H, W i m σ H →
 (J.stop i H ∧ D.nx σ H) ∨ (J.go i H ∧ ∃ N : St → Hp → Prop, (∀ σ' H', N σ' H' → ∃ m', m' < m ∧ W (i + 1) m' σ' H') ∧ ∀ x H', J.yld i H x H' → g x σ H' fun σ2 H2 => tb { D with nx := N, ct := N, bk := D.nx } σ2 H2)
def zcT (fp : List Addr) (h : Heap) : List (Addr × Obj) := fp.filterMap fun b => (h.get? b).map fun o => (b, o)
theorem za2 {fp : List Addr} {h : Heap} {b : Addr} {o : Obj} (hb : b ∈ fp) (e : h.get? b = some o) : (b, o) ∈ zcT fp h := List.mem_filterMap.mpr ⟨b, hb, by rw [e]; rfl⟩
theorem ziB {fp : List Addr} {h : Heap} {p : Addr × Obj} (hp : p ∈ zcT fp h) : p.1 ∈ fp ∧ h.get? p.1 = some p.2 := by
 obtain ⟨b, hb, e⟩ := List.mem_filterMap.mp hp
 cases q : h.get? b with
 | none => rw [q] at e; cases e
 | some o =>
  rw [q] at e
  have e' : (b, o) = p := Option.some.inj e
  subst e'
  exact ⟨hb, q⟩
theorem Inv.pinned {pins : List (Addr × Obj)} {σ : St} {H : Hp} {s : Shared} {fp : List Addr} (I : Inv X pins σ H s) (hf : ∀ b ∈ fp, FpOk X pins H b) (ho : ∀ b ∈ fp, ∃ o, s.heap.get? b = some o ∧ ∀ v, o.data ≠ .cell v) : Inv X (pins ++ zcT fp s.heap) σ H s :=
 I.pins_of fun p hp => (List.mem_append.mp hp).elim (fun z => I.pin p (List.mem_append_right _ z)) fun z => by
  obtain ⟨hb, e⟩ := ziB z
  obtain ⟨f0, f1, f2, _⟩ := hf p.1 hb
  obtain ⟨o, e', d⟩ := ho p.1 hb
  rw [e] at e'; cases e'
  exact ⟨e, f0, f1, f2, d⟩
theorem Inv.unpinned {pins pl : List (Addr × Obj)} {σ : St} {H : Hp} {s : Shared} (I : Inv X (pins ++ pl) σ H s) : Inv X pins σ H s := I.pins_of fun p hp => I.pin p (List.mem_append_right _ (List.mem_append_left _ hp))
theorem zen {iter : Expr} {body : List Stmt} {wi : TI} {g : TG} {tb : TS} {pos : Pos} (hp : PassesOwn (model X.prog X.w) X.A X.env X.xe) (hc : X.calm = true) (hi : PI X tg iter wi) (hg : PG X tg g) (hb : PSs X body tb)
 (hs : ∀ x, foldedSetIterable iter X.env x = pure x := by intro _; rfl) : PS X (.For tg iter body [] pos) (tFor wi g tb) := by
 intro pins s σ H D I h
 refine wpAny_For (thn (hi pins s σ H _ I h) fun v s1 h1 => thn h1 fun itv s2 h2 => ?_) hs
 obtain ⟨it, fp, tn, J, H2, e, I2, T, st2, f2, W, ⟨m0, w0⟩, turn⟩ := h2
 subst e
 have stat : ∀ {H' : Hp}, (∀ b ∈ fp, H' b = none) → ∀ b ∈ fp, FpOk X pins H' b := fun hn b hb => ⟨hn b hb, (f2 b hb).2⟩
 refine codeAny_forLoop_any (fun n s' => ∃ i σ' H', Inv X pins σ' H' s' ∧ tn i s'.heap ∧ (∀ b ∈ fp, H' b = none) ∧ W i n σ' H') ?_ m0 ⟨0, σ, H2, I2, st2, fun b hb => (f2 b hb).1, w0⟩
 rintro n s3 ⟨i, σ3, H3, I3, st3, fr3, w3⟩
 rcases turn i n σ3 H3 w3 with ⟨stop, qn⟩ | ⟨go, N, hN, step⟩
 · refine wpAny_passesOwn hp (thn (T.done X rfl rfl rfl hc i pins s3 σ3 H3 X.xe I3 (stat fr3) st3 stop) fun r s4 ⟨hr, I4⟩ => ?_)
   subst hr
   exact wpAny_execs_nil ⟨σ3, H3, I4, qn⟩
 · refine wpAny_passesOwn hp (thn (T.item X rfl rfl rfl hc i pins s3 σ3 H3 X.xe I3 (stat fr3) st3 go) fun r s4 ⟨u, hr, h4⟩ => ?_)
   subst hr
   refine wpAny_passesOwn hp (thn h4 fun _ s5 ⟨x, H5, I5, r5, y5, st5, fr5⟩ => ?_)
   have I5' := I5.pinned (stat fr5) (T.obj _ _ st5)
   refine wpAny_passesOwn hp (thn (hg _ s5 σ3 H5 x u _ I5' r5 (step x H5 y5)) fun _ s6 ⟨σ6, H6, I6, q6⟩ => ?_)
   refine wpAny_passesOwn hp (thn (hb _ s6 σ6 H6 _ I6 q6) fun f s7 q7 => ?_)
   have again : ∀ {σ7 : St} {H7 : Hp}, Inv X (pins ++ zcT fp s5.heap) σ7 H7 s7 → N σ7 H7 → ∃ m, m < n ∧ ∃ i σ' H', Inv X pins σ' H' s7 ∧ tn i s7.heap ∧ (∀ b ∈ fp, H' b = none) ∧ W i m σ' H' := fun {σ7 H7} I7 n7 => by
    obtain ⟨m', hm, w7⟩ := hN σ7 H7 n7
    refine ⟨m', hm, i + 1, σ7, H7, I7.unpinned, T.keep _ _ _ st5 fun b hb o e => (I7.pin (b, o) (List.mem_append_right _ (List.mem_append_right _ (za2 hb e)))).1, fun b hb => ?_, w7⟩
    obtain ⟨o, e, d⟩ := T.obj _ _ st5 b hb
    exact (I7.pin (b, o) (List.mem_append_right _ (List.mem_append_right _ (za2 hb e)))).2.1
   cases f with
   | next => obtain ⟨σ7, H7, I7, n7⟩ := q7; exact again I7 n7
   | cont => obtain ⟨σ7, H7, I7, n7⟩ := q7; exact again I7 n7
   | brk => obtain ⟨σ7, H7, I7, q7⟩ := q7; exact ⟨σ7, H7, I7.unpinned, q7⟩
   | ret v => obtain ⟨x7, σ7, H7, I7, r7, q7⟩ := q7; exact ⟨x7, σ7, H7, I7.unpinned, r7, q7⟩
end
theorem ze6 {K : PySem.W.Frag} {a : Addr} {xs : List V} {g : TG} {tb : TS} {D : Ends} {σ : St} {H : Hp} (Pv : Nat → St → Hp → Prop) (h0 : Pv 0 σ H) (hl : ∀ i σ H, i ≤ xs.length → Pv i σ H → SqL K H a xs)
 (hs : ∀ i x σ H, xs[i]? = some x → Pv i σ H → g x σ H fun σ2 H2 => tb { D with nx := Pv (i + 1), ct := Pv (i + 1), bk := D.nx } σ2 H2) (hd : ∀ σ H, Pv xs.length σ H → D.nx σ H) :
 ∃ W : Nat → Nat → St → Hp → Prop, (∃ m, W 0 m σ H) ∧ ∀ i m σ H, W i m σ H →
  ((Itl K a).stop i H ∧ D.nx σ H) ∨ ((Itl K a).go i H ∧ ∃ N : St → Hp → Prop, (∀ σ' H', N σ' H' → ∃ m', m' < m ∧ W (i + 1) m' σ' H') ∧ ∀ x H', (Itl K a).yld i H x H' → g x σ H' fun σ2 H2 => tb { D with nx := N, ct := N, bk := D.nx } σ2 H2) := by
 refine ⟨fun i m σ H => m = xs.length - i ∧ i ≤ xs.length ∧ Pv i σ H, ⟨xs.length, by simp, Nat.zero_le _, h0⟩, ?_⟩
 rintro i m σ H ⟨rfl, hi, p⟩
 have q := hl i σ H hi p
 by_cases hlt : i < xs.length
 · refine .inr ⟨⟨xs, xs[i], q, by simp [hlt]⟩, Pv (i + 1), fun σ' H' p' => ⟨xs.length - (i + 1), by omega, rfl, hlt, p'⟩, fun x H' y => ?_⟩
   obtain ⟨e, y⟩ := y
   subst e
   exact hs i x σ _ (y xs q) p
 · have e : i = xs.length := by omega
   subst e
   exact .inl ⟨⟨xs, q, Nat.le_refl _⟩, hd σ H p⟩
theorem zgS {K : PySem.W.Frag} {a : Addr} {xs : List V} {g : TG} {tb : TS} {D : Ends} {σ : St} {H : Hp} (Pv : Nat → St → Hp → Prop) (h0 : Pv 0 σ H) (hl : ∀ i σ H, i ≤ xs.length → Pv i σ H → SqT K H a xs)
 (hs : ∀ i x σ H, xs[i]? = some x → Pv i σ H → g x σ H fun σ2 H2 => tb { D with nx := Pv (i + 1), ct := Pv (i + 1), bk := D.nx } σ2 H2) (hd : ∀ σ H, Pv xs.length σ H → D.nx σ H) :
 ∃ W : Nat → Nat → St → Hp → Prop, (∃ m, W 0 m σ H) ∧ ∀ i m σ H, W i m σ H →
  ((Itt K a).stop i H ∧ D.nx σ H) ∨ ((Itt K a).go i H ∧ ∃ N : St → Hp → Prop, (∀ σ' H', N σ' H' → ∃ m', m' < m ∧ W (i + 1) m' σ' H') ∧ ∀ x H', (Itt K a).yld i H x H' → g x σ H' fun σ2 H2 => tb { D with nx := N, ct := N, bk := D.nx } σ2 H2) := by
 refine ⟨fun i m σ H => m = xs.length - i ∧ i ≤ xs.length ∧ Pv i σ H, ⟨xs.length, by simp, Nat.zero_le _, h0⟩, ?_⟩
 rintro i m σ H ⟨rfl, hi, p⟩
 have q := hl i σ H hi p
 by_cases hlt : i < xs.length
 · refine .inr ⟨⟨xs, xs[i], q, by simp [hlt]⟩, Pv (i + 1), fun σ' H' p' => ⟨xs.length - (i + 1), by omega, rfl, hlt, p'⟩, fun x H' y => ?_⟩
   obtain ⟨e, y⟩ := y
   subst e
   exact hs i x σ _ (y xs q) p
 · have e : i = xs.length := by omega
   subst e
   exact .inl ⟨⟨xs, q, Nat.le_refl _⟩, hd σ H p⟩
theorem zi6 {lo : Int} {n : Nat} {g : TG} {tb : TS} {D : Ends} {σ : St} {H : Hp} (Pv : Nat → St → Hp → Prop) (h0 : Pv 0 σ H)
 (hs : ∀ i σ H, i < n → Pv i σ H → g (.int (lo + i)) σ H fun σ2 H2 => tb { D with nx := Pv (i + 1), ct := Pv (i + 1), bk := D.nx } σ2 H2) (hd : ∀ σ H, Pv n σ H → D.nx σ H) :
 ∃ W : Nat → Nat → St → Hp → Prop, (∃ m, W 0 m σ H) ∧ ∀ i m σ H, W i m σ H →
  ((Itr lo n).stop i H ∧ D.nx σ H) ∨ ((Itr lo n).go i H ∧ ∃ N : St → Hp → Prop, (∀ σ' H', N σ' H' → ∃ m', m' < m ∧ W (i + 1) m' σ' H') ∧ ∀ x H', (Itr lo n).yld i H x H' → g x σ H' fun σ2 H2 => tb { D with nx := N, ct := N, bk := D.nx } σ2 H2) := by
 refine ⟨fun i m σ H => m = n - i ∧ i ≤ n ∧ Pv i σ H, ⟨n, by simp, Nat.zero_le _, h0⟩, ?_⟩
 rintro i m σ H ⟨rfl, hi, p⟩
 by_cases hlt : i < n
 · refine .inr ⟨hlt, Pv (i + 1), fun σ' H' p' => ⟨n - (i + 1), by omega, rfl, hlt, p'⟩, fun x H' y => ?_⟩
   obtain ⟨e, y⟩ := y
   subst e y
   exact hs i σ _ hlt p
 · have e : i = n := by omega
   subst e
   exact .inl ⟨Nat.le_refl _, hd σ H p⟩
abbrev R2 := V → V → Hp → VK → Prop
def OpR (X : Cx) (f : Value → Value → Sem Value) (r : R2) : Prop :=
 ∀ (pins : List (Addr × Obj)) (s : Shared) (σ : St) (H : Hp) (x y : V) (v u : Value) (Q : VK), Inv X pins σ H s → RelV x v → RelV y u → r x y H Q →
  wpAny (model X.prog X.w) X.A (f v u) (EP X pins σ Q) X.xe s
def UnR (X : Cx) (f : Value → Sem Value) (r : V → Hp → VK → Prop) : Prop :=
 ∀ (pins : List (Addr × Obj)) (s : Shared) (σ : St) (H : Hp) (x : V) (v : Value) (Q : VK), Inv X pins σ H s → RelV x v → r x H Q →
  wpAny (model X.prog X.w) X.A (f v) (EP X pins σ Q) X.xe s
def zdg (X : Cx) (f : Value) (r : List V → Hp → VK → Prop) : Prop :=
 ∀ (pins : List (Addr × Obj)) (s : Shared) (σ : St) (H : Hp) (xs : List V) (us : List Value) (Q : VK), Inv X pins σ H s → Vals xs us → r xs H Q →
  wpAny (model X.prog X.w) X.A (call f us) (EP X pins σ Q) X.xe s
def TruR (X : Cx) (r : V → Hp → (Bool → Hp → Prop) → Prop) : Prop :=
 ∀ (pins : List (Addr × Obj)) (s : Shared) (σ : St) (H : Hp) (x : V) (v : Value) (Q : Bool → Hp → Prop), Inv X pins σ H s → RelV x v → r x H Q →
  wpAny (model X.prog X.w) X.A (truthy v) (TP X pins σ Q) X.xe s
def tOp (r : R2) (ta tb : TE) : TE := fun σ H Q => ta σ H fun x H1 => tb σ H1 fun y H2 => r x y H2 Q
def tUn (r : V → Hp → VK → Prop) (ta : TE) : TE := fun σ H Q => ta σ H fun x H1 => r x H1 Q
def rI (C : Int → Int → Prop) (g : Int → Int → V) : R2 := fun x y H Q => ∃ i j, x = .int i ∧ y = .int j ∧ C i j ∧ Q (g i j) H
def rI0 (g : Int → Int → V) : R2 := fun x y H Q => ∃ i j, x = .int i ∧ y = .int j ∧ Q (g i j) H
def rU (g : Int → V) : V → Hp → VK → Prop := fun x H Q => ∃ i, x = .int i ∧ Q (g i) H
section
variable {X : Cx} {a b c : Expr} {ta tb tc : TE} {pos : Pos}
theorem binT (ha : PE X a ta) (hb : PE X b tb) {pins : List (Addr × Obj)} {s : Shared} {σ : St} {H : Hp} {R : V → V → Hp → Prop} (I : Inv X pins σ H s)
 (h : ta σ H fun x H1 => tb σ H1 fun y H2 => R x y H2) {Q : Value → Shared → Prop} {f : Value → Value → Sem Value}
 (hf : ∀ v u s2 x y H2, Inv X pins σ H2 s2 → RelV x v → RelV y u → R x y H2 → wpAny (model X.prog X.w) X.A (f v u) Q X.xe s2) :
 wpAny (model X.prog X.w) X.A (eval a X.env) (fun v s₁ => wpAny (model X.prog X.w) X.A (eval b X.env) (fun u s₂ => wpAny (model X.prog X.w) X.A (f v u) Q X.xe s₂) X.xe s₁) X.xe s := by
 refine thn (ha pins s σ H _ I h) fun v s1 ⟨x, H1, I1, r1, q1⟩ => ?_
 refine thn (hb pins s1 σ H1 _ I1 q1) fun u s2 ⟨y, H2, I2, r2, q2⟩ => ?_
 exact hf v u s2 x y H2 I2 r1 r2 q2
theorem zax {op : Operator} {r : R2} (ho : OpR X (binaryOp op) r) (ha : PE X a ta) (hb : PE X b tb) : PE X (.BinOp a op b pos) (tOp r ta tb) := by
 intro pins s σ H Q I h
 exact wpAny_BinOp (binT ha hb I h fun v u s2 x y H2 I2 rx ry q => ho pins s2 σ H2 x y v u Q I2 rx ry q)
theorem zls {op : UnaryOp} {r : V → Hp → VK → Prop} (ho : UnR X (unaryOp op) r) (ha : PE X a ta) : PE X (.UnaryOp op a pos) (tUn r ta) := by
 intro pins s σ H Q I h
 exact UnaryOp_ (thn (ha pins s σ H _ I h) fun v s1 ⟨x, H1, I1, r1, q1⟩ => ho pins s1 σ H1 x v Q I1 r1 q1)
theorem opI {f : Value → Value → Sem Value} {C : Int → Int → Prop} {g : Int → Int → Int}
 (rule : ∀ (i j : Int) (t u : Tok) (s : Shared) (Q : Value → Shared → Prop) (E : Value → Shared → Prop), C i j → Q (.int (g i j) s.toks) { s with toks := s.toks + 1 } → wpAny (model X.prog X.w) X.A (f (.int i t) (.int j u)) Q E s) :
 OpR X f (rI C fun i j => .int (g i j)) := by
 intro pins s σ H x y v u Q I rx ry h
 obtain ⟨i, j, rfl, rfl, hc, q⟩ := h
 obtain ⟨t, rfl⟩ := rx
 obtain ⟨t', rfl⟩ := ry
 exact rule i j t t' s _ _ hc ⟨.int (g i j), H, I.tok _, ⟨_, rfl⟩, q⟩
theorem opI0 {f : Value → Value → Sem Value} {g : Int → Int → Int}
 (rule : ∀ (i j : Int) (t u : Tok) (s : Shared) (Q : Value → Shared → Prop) (E : Value → Shared → Prop), Q (.int (g i j) s.toks) { s with toks := s.toks + 1 } → wpAny (model X.prog X.w) X.A (f (.int i t) (.int j u)) Q E s) :
 OpR X f (rI0 fun i j => .int (g i j)) := by
 intro pins s σ H x y v u Q I rx ry h
 obtain ⟨i, j, rfl, rfl, q⟩ := h
 obtain ⟨t, rfl⟩ := rx
 obtain ⟨t', rfl⟩ := ry
 exact rule i j t t' s _ _ ⟨.int (g i j), H, I.tok _, ⟨_, rfl⟩, q⟩
theorem opB0 {f : Value → Value → Sem Value} {g : Int → Int → Bool}
 (rule : ∀ (i j : Int) (t u : Tok) (s : Shared) (Q : Value → Shared → Prop) (E : Value → Shared → Prop), Q (.bool (g i j)) s → wpAny (model X.prog X.w) X.A (f (.int i t) (.int j u)) Q E s) :
 OpR X f (rI0 fun i j => .bl (g i j)) := by
 intro pins s σ H x y v u Q I rx ry h
 obtain ⟨i, j, rfl, rfl, q⟩ := h
 obtain ⟨t, rfl⟩ := rx
 obtain ⟨t', rfl⟩ := ry
 exact rule i j t t' s _ _ ⟨.bl (g i j), H, I, rfl, q⟩
def CMul (i j : Int) : Prop := (-(2 ^ 64) < i ∧ i < 2 ^ 64) ∨ (-(2 ^ 64) < j ∧ j < 2 ^ 64)
theorem CMul.ok {i j : Int} (h : CMul i j) : IntMulOk i j := by
 rcases h with ⟨h1, h2⟩ | ⟨h1, h2⟩
 · exact .of_left (intBits_le_64 h1 h2)
 · exact .of_right (intBits_le_64 h1 h2)
theorem zbR : OpR X (binaryOp .Add) (rI0 fun i j => .int (i + j)) := opI0 fun _ _ _ _ _ _ _ q => add_int q
theorem zbQ : OpR X (binaryOp .Sub) (rI0 fun i j => .int (i - j)) := opI0 fun _ _ _ _ _ _ _ q => sub_int q
theorem zeo : OpR X (binaryOp .Mult) (rI CMul fun i j => .int (i * j)) := opI fun _ _ _ _ _ _ _ hc q => mul_int q hc.ok
theorem zep : OpR X (binaryOp .Mod) (rI (fun _ j => 0 < j) fun i j => .int (i % j)) := opI fun i j _ _ _ _ _ hc q => by
 have h1 : (0 : Int) < j := hc
 exact mod_int' (by omega) (by rw [Int.fmod_eq_emod_of_nonneg i (by omega)]; exact q)
theorem unI {f : Value → Sem Value} {g : Int → Int}
 (rule : ∀ (i : Int) (t : Tok) (s : Shared) (Q : Value → Shared → Prop) (E : Value → Shared → Prop), Q (.int (g i) s.toks) { s with toks := s.toks + 1 } → wpAny (model X.prog X.w) X.A (f (.int i t)) Q E s) :
 UnR X f (rU fun i => .int (g i)) := by
 intro pins s σ H x v Q I rx h
 obtain ⟨i, rfl, q⟩ := h
 obtain ⟨t, rfl⟩ := rx
 exact rule i t s _ _ ⟨.int (g i), H, I.tok _, ⟨_, rfl⟩, q⟩
theorem zj0 : UnR X (unaryOp .USub) (rU fun i => .int (-i)) := unI fun _ _ _ _ _ q => neg_int q
end
def scal : V → V → Bool
 | .non, .non => true | .non, .int _ => true | .int _, .non => true | .non, .bl _ => true | .bl _, .non => true | .non, .str _ => true | .str _, .non => true
 | .int _, .int _ => true | .bl _, .bl _ => true | .str _, .str _ => true | .byt _, .byt _ => true
 | .int _, .str _ => true | .str _, .int _ => true | .bl _, .str _ => true | .str _, .bl _ => true
 | _, _ => false
def rEq : R2 := fun x y H Q => scal x y = true ∧ Q (.bl (decide (x = y))) H
def rNe : R2 := fun x y H Q => scal x y = true ∧ Q (.bl (!decide (x = y))) H
theorem zi9 {i j : Int} : decide (V.int i = V.int j) = (i == j) := by
 rw [Bool.eq_iff_iff]
 simp
theorem zkg {i j : Bool} : decide (V.bl i = V.bl j) = (i == j) := by
 rw [Bool.eq_iff_iff]
 simp
theorem zi8 {i j : Str} : decide (V.str i = V.str j) = (i == j) := by
 rw [Bool.eq_iff_iff]
 simp
theorem zja {i j : Array UInt8} : decide (V.byt i = V.byt j) = (i.toList == j.toList) := by
 rw [Bool.eq_iff_iff]
 cases i
 cases j
 simp
section
variable {X : Cx} {a b c : Expr} {ta tb tc : TE} {pos : Pos}
theorem zaB {pins : List (Addr × Obj)} {σ : St} {H : Hp} {s : Shared} {Q : VK} {k k' : Bool} (I : Inv X pins σ H s) (q : Q (.bl k) H) (e : k = k') : EP X pins σ Q (.bool k') s := by
 subst e
 exact ⟨.bl k, H, I, rfl, q⟩
theorem zb3 : OpR X (compareOp .Eq) rEq := by
 intro pins s σ H x y v u Q I rx ry h
 obtain ⟨hs, q⟩ := h
 cases x with
 | non =>
  cases rx
  cases y with
  | non => cases ry; exact PySem.EqNone.eq_none_none (zaB I q (by simp))
  | bl j => cases ry; exact PySem.EqNone.eq_none_bool (zaB I q (by simp))
  | int j => obtain ⟨t', rfl⟩ := ry; exact PySem.EqNone.eq_none_int (zaB I q (by simp))
  | str j => obtain ⟨t', rfl⟩ := ry; exact PySem.EqNone.eq_none_str (zaB I q (by simp))
  | _ => exact absurd (show false = true from hs) Bool.false_ne_true
 | bl i =>
  cases rx
  cases y with
  | non => cases ry; exact PySem.EqNone.eq_bool_none (zaB I q (by simp))
  | bl j => cases ry; exact eq_bool (zaB I q zkg)
  | str j => obtain ⟨t', rfl⟩ := ry; exact PySem.EqMixed.eq_bool_str (zaB I q (by simp))
  | _ => exact absurd (show false = true from hs) Bool.false_ne_true
 | int i =>
  obtain ⟨t, rfl⟩ := rx
  cases y with
  | non => cases ry; exact PySem.EqNone.eq_int_none (zaB I q (by simp))
  | int j => obtain ⟨t', rfl⟩ := ry; exact eq_int (zaB I q zi9)
  | str j => obtain ⟨t', rfl⟩ := ry; exact PySem.EqMixed.eq_int_str (zaB I q (by simp))
  | _ => exact absurd (show false = true from hs) Bool.false_ne_true
 | str i =>
  obtain ⟨t, rfl⟩ := rx
  cases y with
  | non => cases ry; exact PySem.EqNone.eq_str_none (zaB I q (by simp))
  | bl j => cases ry; exact PySem.EqMixed.eq_str_bool (zaB I q (by simp))
  | int j => obtain ⟨t', rfl⟩ := ry; exact PySem.EqMixed.eq_str_int (zaB I q (by simp))
  | str j => obtain ⟨t', rfl⟩ := ry; exact eq_str (zaB I q zi8)
  | _ => exact absurd (show false = true from hs) Bool.false_ne_true
 | byt i =>
  obtain ⟨t, rfl⟩ := rx
  cases y with
  | byt j => obtain ⟨t', rfl⟩ := ry; exact PySem.W.eq_bytes (zaB I q zja)
  | _ => exact absurd (show false = true from hs) Bool.false_ne_true
 | _ => cases y <;> exact absurd (show false = true from hs) Bool.false_ne_true
theorem zeX : OpR X (compareOp .NotEq) rNe := by
 intro pins s σ H x y v u Q I rx ry h
 obtain ⟨hs, q⟩ := h
 cases x with
 | non =>
  cases rx
  cases y with
  | non => cases ry; exact PySem.EqNone.ne_none_none (zaB I q (by simp))
  | bl j => cases ry; exact PySem.EqNone.ne_none_bool (zaB I q (by simp))
  | int j => obtain ⟨t', rfl⟩ := ry; exact PySem.EqNone.ne_none_int (zaB I q (by simp))
  | str j => obtain ⟨t', rfl⟩ := ry; exact PySem.EqNone.ne_none_str (zaB I q (by simp))
  | _ => exact absurd (show false = true from hs) Bool.false_ne_true
 | bl i =>
  cases rx
  cases y with
  | non => cases ry; exact PySem.EqNone.ne_bool_none (zaB I q (by simp))
  | bl j => cases ry; exact ne_bool (zaB I q (congrArg not zkg))
  | str j => obtain ⟨t', rfl⟩ := ry; exact PySem.EqMixed.ne_bool_str (zaB I q (by simp))
  | _ => exact absurd (show false = true from hs) Bool.false_ne_true
 | int i =>
  obtain ⟨t, rfl⟩ := rx
  cases y with
  | non => cases ry; exact PySem.EqNone.ne_int_none (zaB I q (by simp))
  | int j => obtain ⟨t', rfl⟩ := ry; exact ne_int (zaB I q (congrArg not zi9))
  | str j => obtain ⟨t', rfl⟩ := ry; exact PySem.EqMixed.ne_int_str (zaB I q (by simp))
  | _ => exact absurd (show false = true from hs) Bool.false_ne_true
 | str i =>
  obtain ⟨t, rfl⟩ := rx
  cases y with
  | non => cases ry; exact PySem.EqNone.ne_str_none (zaB I q (by simp))
  | bl j => cases ry; exact PySem.EqMixed.ne_str_bool (zaB I q (by simp))
  | int j => obtain ⟨t', rfl⟩ := ry; exact PySem.EqMixed.ne_str_int (zaB I q (by simp))
  | str j => obtain ⟨t', rfl⟩ := ry; exact ne_str (zaB I q (congrArg not zi8))
  | _ => exact absurd (show false = true from hs) Bool.false_ne_true
 | byt i =>
  obtain ⟨t, rfl⟩ := rx
  cases y with
  | byt j => obtain ⟨t', rfl⟩ := ry; exact PySem.W.ne_bytes (zaB I q (congrArg not zja))
  | _ => exact absurd (show false = true from hs) Bool.false_ne_true
 | _ => cases y <;> exact absurd (show false = true from hs) Bool.false_ne_true
theorem zkI : OpR X (compareOp .Lt) (rI0 fun i j => .bl (decide (i < j))) := opB0 fun _ _ _ _ _ _ _ q => lt_int q
theorem zgu : OpR X (compareOp .LtE) (rI0 fun i j => .bl (decide (i ≤ j))) := opB0 fun _ _ _ _ _ _ _ q => le_int q
theorem zlx : OpR X (compareOp .Gt) (rI0 fun i j => .bl (decide (j < i))) := opB0 fun _ _ _ _ _ _ _ q => gt_int q
theorem zly : OpR X (compareOp .GtE) (rI0 fun i j => .bl (decide (j ≤ i))) := opB0 fun _ _ _ _ _ _ _ q => ge_int q
theorem ziy : OpR X (compareOp .Lt) (fun x y H Q => ∃ i j, x = .str i ∧ y = .str j ∧ Q (.bl (decide (i.cps.toList < j.cps.toList))) H) := by
 intro pins s σ H x y v u Q I rx ry h
 obtain ⟨i, j, rfl, rfl, q⟩ := h
 obtain ⟨t, rfl⟩ := rx
 obtain ⟨t', rfl⟩ := ry
 exact lt_str (zaB I q rfl)
theorem zau (b : Expr) {op : CmpOp} (h : op ≠ .In := by decide) (h2 : op ≠ .NotIn := by decide) : behindInMarks op b = false := by
 have e1 : (op == CmpOp.In) = false := by cases op <;> first | rfl | exact absurd rfl h
 have e2 : (op == CmpOp.NotIn) = false := by cases op <;> first | rfl | exact absurd rfl h2
 cases b <;> simp [behindInMarks, e1, e2]
theorem zbr {op : CmpOp} {r : R2} (ho : OpR X (compareOp op) r) (ha : PE X a ta) (hb : PE X b tb) (hm : behindInMarks op b = false) : PE X (.Compare a [op] [b] pos) (tOp r ta tb) := by
 intro pins s σ H Q I h
 exact wpAny_Compare1 (binT ha hb I h fun v u s2 x y H2 I2 rx ry q => ho pins s2 σ H2 x y v u Q I2 rx ry q) hm
def zld (t : TE) : TT := fun σ H Q => t σ H fun x H' => ∃ k, x = .bl k ∧ Q k H'
theorem zav {op : CmpOp} {r : R2} (ho : OpR X (compareOp op) r) (ha : PE X a ta) (hb : PE X b tb) (hm : behindInMarks op b = false) : PT X (.Compare a [op] [b] pos) (zld (tOp r ta tb)) := by
 intro pins s σ H Q I h
 refine wpAny_isTrue_Compare1 (thn (ha pins s σ H _ I h) fun v s1 ⟨x, H1, I1, r1, q1⟩ => thn (hb pins s1 σ H1 _ I1 q1) fun u s2 ⟨y, H2, I2, r2, q2⟩ =>
  thn (ho pins s2 σ H2 x y v u _ I2 r1 r2 q2) fun c s3 ⟨z, H3, I3, r3, k, e, q3⟩ => ?_) hm
 subst e
 cases r3
 exact wpAny_truthy_bool ⟨H3, I3, q3⟩
def zj2 (r r' : R2) (ta tb tc : TE) : TE := fun σ H Q => ta σ H fun x H1 => tb σ H1 fun y H2 => r x y H2 fun z H3 => ∃ k, z = .bl k ∧
 (if k = true then tc σ H3 fun w' H4 => r' y w' H4 Q else Q (.bl false) H3)
theorem zeW {op op' : CmpOp} {r r' : R2} (ho : OpR X (compareOp op) r) (ho' : OpR X (compareOp op') r') (ha : PE X a ta) (hb : PE X b tb) (hc : PE X c tc)
 (hm : lastMarks [op, op'] [b, c] = false := by with_unfolding_all rfl) : PE X (.Compare a [op, op'] [b, c] pos) (zj2 r r' ta tb tc) := by
 intro pins s σ H Q I h
 refine Compare_chain (thn (ha pins s σ H _ I h) fun v s1 ⟨x, H1, I1, r1, q1⟩ => chain_link (thn (hb pins s1 σ H1 _ I1 q1) fun u s2 ⟨y, H2, I2, r2, q2⟩ =>
  thn (ho pins s2 σ H2 x y v u _ I2 r1 r2 q2) fun d s3 ⟨z, H3, I3, r3, k, e, q3⟩ => ?_)) hm
 subst e
 cases r3
 refine wpAny_truthy_bool ?_
 cases k with
 | false => exact ite_ff ⟨.bl false, H3, I3, rfl, q3⟩
 | true => exact ite_tt (chain_last (thn (hc pins s3 σ H3 _ I3 q3) fun w' s4 ⟨z', H4, I4, r4, q4⟩ => ho' pins s4 σ H4 y z' u w' Q I4 r2 r4 q4))
theorem zjy {op op' : CmpOp} {r r' : R2} (ho : OpR X (compareOp op) r) (ho' : OpR X (compareOp op') r') (ha : PE X a ta) (hb : PE X b tb) (hc : PE X c tc)
 (hm : lastMarks [op, op'] [b, c] = false := by with_unfolding_all rfl) : PT X (.Compare a [op, op'] [b, c] pos) (zld (zj2 r r' ta tb tc)) := by
 intro pins s σ H Q I h
 refine isTrue_chain (thn (ha pins s σ H _ I h) fun v s1 ⟨x, H1, I1, r1, q1⟩ => test_link (thn (hb pins s1 σ H1 _ I1 q1) fun u s2 ⟨y, H2, I2, r2, q2⟩ =>
  thn (ho pins s2 σ H2 x y v u _ I2 r1 r2 q2) fun d s3 ⟨z, H3, I3, r3, k, e, q3⟩ => ?_)) hm
 subst e
 cases r3
 refine wpAny_truthy_bool ?_
 cases k with
 | false =>
  obtain ⟨k', e', q'⟩ := q3
  cases e'
  exact ite_ff ⟨H3, I3, q'⟩
 | true =>
  refine ite_tt (test_last (thn (hc pins s3 σ H3 _ I3 q3) fun w' s4 ⟨z', H4, I4, r4, q4⟩ => thn (ho' pins s4 σ H4 y z' u w' _ I4 r2 r4 q4) fun d' s5 ⟨z2, H5, I5, r5, k2, e2, q5⟩ => ?_))
  subst e2
  cases r5
  exact wpAny_truthy_bool ⟨H5, I5, q5⟩
def TruV (K : PySem.W.Frag) (x : V) (H : Hp) (k : Bool) : Prop :=
 match x with
 | .non => k = false
 | .bl b => k = b
 | .int i => k = (i != 0)
 | .str y => y.length ≤ sizeLine ∧ k = ((y.length : Int) != 0)
 | .byt y => y.size ≤ sizeLine ∧ k = ((y.size : Int) != 0)
 | .ref p => (∃ xs, SqL K H p xs ∧ k = !xs.isEmpty) ∨ (∃ xs, SqT K H p xs ∧ k = !xs.isEmpty) ∨ ∃ kvs, H p = some (.dK kvs) ∧ k = !kvs.isEmpty
 | _ => False
theorem zhQ {κ : Type} {kvs : List (κ × V)} {vs : List (κ × Value)} (r : KV kvs vs) : (!vs.isEmpty) = !kvs.isEmpty := by
 cases r <;> rfl
theorem zet {xs : List V} {its : List Value} (r : Vals xs its) : (!its.toArray.isEmpty) = !xs.isEmpty := by
 cases r <;> simp
theorem zd2 : (sizeLine : Nat) < 2 ^ 63 := by rw [sizeLine_eq]; decide
theorem zlb : TruR X (fun x H Q => ∃ k, TruV X.K x H k ∧ Q k H) := by
 intro pins s σ H x v Q I rx h
 obtain ⟨k, e, q⟩ := h
 have hl := zd2
 have hs : sizeLine = 16777216 := sizeLine_eq
 cases x with
 | non =>
  cases rx
  have e' : k = false := e
  subst e'
  exact truthy_none ⟨H, I, q⟩
 | bl b =>
  cases rx
  have e' : k = b := e
  subst e'
  exact wpAny_truthy_bool ⟨H, I, q⟩
 | int i =>
  obtain ⟨t, rfl⟩ := rx
  have e' : k = (i != 0) := e
  subst e'
  exact PySem.P.truthy_int ⟨H, I, q⟩
 | str y =>
  obtain ⟨t, rfl⟩ := rx
  obtain ⟨hy, e'⟩ : y.length ≤ sizeLine ∧ k = ((y.length : Int) != 0) := e
  subst e'
  exact PySem.P.truthy_str (by omega) ⟨H, I.tok _, q⟩
 | byt y =>
  obtain ⟨t, rfl⟩ := rx
  obtain ⟨hy, e'⟩ : y.size ≤ sizeLine ∧ k = ((y.size : Int) != 0) := e
  subst e'
  exact PySem.W.truthy_bytes (by omega) ⟨H, I.tok _, q⟩
 | ref p =>
  cases rx
  have e' : (∃ xs, SqL X.K H p xs ∧ k = !xs.isEmpty) ∨ (∃ xs, SqT X.K H p xs ∧ k = !xs.isEmpty) ∨ ∃ kvs, H p = some (.dK kvs) ∧ k = !kvs.isEmpty := e
  rcases e' with ⟨xs, hx, e'⟩ | ⟨xs, hx, e'⟩ | ⟨kvs, hx, e'⟩
  · subst e'
    obtain ⟨its, r, pl, hz⟩ := I.list hx
    have hlen := r.length
    exact wpAny_truthy_list pl.isList (by simp only [List.size_toArray]; omega) ⟨H, I.tok _, by rw [zet r]; exact q⟩
  · subst e'
    obtain ⟨its, r, pl, hz⟩ := I.tuple hx
    have hlen := r.length
    exact truthy_tuple pl (by simp only [List.size_toArray]; omega) ⟨H, I.tok _, by rw [zet r]; exact q⟩
  · subst e'
    obtain ⟨hz, hS, vs, r, m⟩ : kvs.length ≤ sizeLine ∧ (p == sysModules) = false ∧ ∃ vs, KV kvs vs ∧ s.heap.DictOf (za1 X.prog X.w) p vs := I.hok p _ hx
    have hlen : kvs.length = vs.length := Paired.length r
    exact wpAny_truthy_dict hS m (by omega) ⟨H, I.tok _, by rw [zhQ r]; exact q⟩
 | _ => exact (show False from e).elim
theorem zhb (ha : PE X a ta) (he : ∀ whole, isTrue a X.env whole = (do let v ← whole; standAt a.pos; holding [v] (truthy v))) :
 PT X a (fun σ H Q => ta σ H fun x H' => ∃ k, TruV X.K x H' k ∧ Q k H') := by
 intro pins s σ H Q I h
 exact isTrue_plain (thn (ha pins s σ H _ I h) fun v s1 ⟨x, H1, I1, r1, q1⟩ => zlb pins s1 σ H1 x v Q I1 r1 q1) (he _)
theorem zeq : OpR X (binaryOp .Add) (fun x y H Q => ∃ i j, x = .str i ∧ y = .str j ∧ i.length + j.length ≤ sizeLine ∧ Q (.str (i ++ j)) H) := by
 intro pins s σ H x y v u Q I rx ry h
 obtain ⟨i, j, rfl, rfl, hz, q⟩ := h
 obtain ⟨t, rfl⟩ := rx
 obtain ⟨t', rfl⟩ := ry
 exact add_str (fun t' tk => ⟨.str (i ++ j), H, I.tok _, ⟨_, rfl⟩, q⟩) hz
theorem zc3 {x : V} {us : List Value} (r : Vals [x] us) : ∃ u, us = [u] ∧ RelV x u := by
 cases r with
 | cons r1 r2 => cases r2; exact ⟨_, rfl, r1⟩
theorem zhu {x y : V} {us : List Value} (r : Vals [x, y] us) : ∃ u w', us = [u, w'] ∧ RelV x u ∧ RelV y w' := by
 cases r with
 | cons r1 r2 =>
  cases r2 with
  | cons r3 r4 => cases r4; exact ⟨_, _, rfl, r1, r3⟩
theorem zjW : zdg X (.builtin "abs") (fun xs H Q => ∃ i, xs = [.int i] ∧ Q (.int (if i < 0 then -i else i)) H) := by
 intro pins s σ H xs us Q I r h
 obtain ⟨i, rfl, q⟩ := h
 obtain ⟨u, rfl, t, rfl⟩ := zc3 r
 exact call_abs_int fun u tk => ⟨.int (if i < 0 then -i else i), H, I.tok _, ⟨_, rfl⟩, q⟩
theorem zfM (hc : X.calm = true) : zdg X (.builtin "max") (fun xs H Q => ∃ i j, xs = [.int i, .int j] ∧ Q (.int (if j > i then j else i)) H) := by
 intro pins s σ H xs us Q I r h
 obtain ⟨i, j, rfl, q⟩ := h
 obtain ⟨u, w', rfl, ⟨t, rfl⟩, ⟨t', rfl⟩⟩ := zhu r
 refine max_two_ints (I.ok.hd hc) fun h' tk k => ⟨_, H, I.kept k, ?_, q⟩
 by_cases hj : j > i
 · rw [if_pos hj, if_pos hj]; exact ⟨_, rfl⟩
 · rw [if_neg hj, if_neg hj]; exact ⟨_, rfl⟩
theorem zfL (hc : X.calm = true) : zdg X (.builtin "min") (fun xs H Q => ∃ i j, xs = [.int i, .int j] ∧ Q (.int (if j < i then j else i)) H) := by
 intro pins s σ H xs us Q I r h
 obtain ⟨i, j, rfl, q⟩ := h
 obtain ⟨u, w', rfl, ⟨t, rfl⟩, ⟨t', rfl⟩⟩ := zhu r
 refine min_two_ints (I.ok.hd hc) fun h' tk k => ⟨_, H, I.kept k, ?_, q⟩
 by_cases hj : j < i
 · rw [if_pos hj, if_pos hj]; exact ⟨_, rfl⟩
 · rw [if_neg hj, if_neg hj]; exact ⟨_, rfl⟩
end
structure ObjM (h : Heap) (x dx C : Addr) (mA : Str → Option Value) : Prop where
 obj : h.get? x = some (PySem.W.instObj C dx)
 ns : h.Ns1 dx mA
 ne : dx ≠ x
theorem ziJ {h : Heap} {dx : Addr} {mA : Str → Option Value} (n : h.Ns1 dx mA) : ∃ od, h.get? dx = some od ∧ ∀ name, PySem.W.lookIn name od = some (mA name) := by
 obtain ⟨o, es, ep, ho, hd, hk, _, hm⟩ := n
 refine ⟨o, ho, fun name => ?_⟩
 have e := hm name
 unfold nsFind findBy at e
 rw [← Array.find?_toList] at e
 unfold PySem.W.lookIn
 rw [hd]
 dsimp only
 split
 · rename_i y q
   rw [q] at e
   exact congrArg some e
 · rename_i q
   rw [q] at e
   have a : es.toList.any (·.refKey) = false := by
    rw [List.any_eq_false]
    intro y hy
    obtain ⟨z, t, hkey⟩ := hk y (Array.mem_toList_iff.mp hy)
    simp [DictEntry.refKey, hkey]
   have a' : ¬ es.toList.any (·.refKey) = true := by rw [a]; exact Bool.false_ne_true
   rw [if_neg a']
   exact congrArg some e
theorem ObjM.look {h : Heap} {x dx C : Addr} {mA : Str → Option Value} (I : ObjM h x dx C mA) : ∃ od, PySem.W.InstAt h x (PySem.W.instObj C dx) C (some od) ∧ ∀ name, PySem.W.lookIn name od = some (mA name) :=
 let ⟨od, ho, hl⟩ := ziJ I.ns
 ⟨od, ⟨I.obj, rfl, rfl, ho⟩, hl⟩
section
variable {prog : Program} {w : World} {A : Around} {E : Value → Shared → Prop} {s : Shared} {K : PySem.W.Frag} {x dx C f : Addr} {mA : Str → Option Value} {name : Str} {v : Value}
end
theorem RelO.some_of {v : V} {o : Option Value} (r : RelO (some v) o) : ∃ u, o = some u ∧ RelV v u := by
 cases o with
 | none => exact (show False from r).elim
 | some u => exact ⟨u, rfl, r⟩
section
variable {P : Program} {w : World} {H H' : Hp} {h h' : Heap} {a C dx : Addr} {fs fs' : List (Str × V)}
theorem zkP (hok : HOk P w H h) (e : H a = some (.ins C dx fs)) : ∃ mA, ObjM h a dx C mA ∧ (∀ f, RelO (fs.lookup f) (mA f)) ∧ PySem.Within mA (fs.map (·.1)) ∧ fs.length ≤ 1000 ∧ H dx = some (.own a) := by
 obtain ⟨d, z, ne, ob, mA, n, r, q⟩ := (show ObjOk P w H h a (.ins C dx fs) from hok a _ e)
 exact ⟨mA, ⟨ob, n, ne⟩, r, q, z, d⟩
end
structure Cls (K : PySem.W.Frag) (C : Addr) : Prop where
 pg : PySem.W.plainGet K C Str.empty = true
 hd : PySem.W.hasDictIn K C = true
 po : PySem.W.plainOver K C = true
 sa : PySem.W.findIn K (.ref C) "__setattr__" = some (some (.builtin "object.__setattr__"))
theorem Cls.get {K : PySem.W.Frag} {C : Addr} (c : Cls K C) (f : Str) : PySem.W.plainGet K C f = true := c.pg
section
variable {X : Cx} {pins : List (Addr × Obj)} {σ : St} {H : Hp} {s : Shared} {a C dx : Addr} {fs : List (Str × V)} {f : Str} {v : V} {A : Around} {E : Value → Shared → Prop}
end
section
variable {X : Cx} {o e value : Expr} {f : Str} {pos pos' tpos : Pos} {ta tv : TE}
end
section
variable {X : Cx} {pins : List (Addr × Obj)} {σ : St} {H : Hp} {s : Shared} {A : Around} {E : Value → Shared → Prop} {Q : Value → Shared → Prop} {c : Value} {b : Bool}
inductive TyOf (K : PySem.W.Frag) (H : Hp) : V → Value → Prop where
 | non : TyOf K H .non (.type "NoneType")
 | bl (x : Bool) : TyOf K H (.bl x) (.type "bool")
 | int (i : Int) : TyOf K H (.int i) (.type "int")
 | str (x : Str) : TyOf K H (.str x) (.type "str")
 | flt (x : UInt64) : TyOf K H (.flt x) (.type "float")
 | lst {a : Addr} {xs : List V} (e : H a = some (.lst xs)) : TyOf K H (.ref a) (.type "list")
 | frz {a : Addr} {o : Obj} {xs : List V} (e : H a = some (.frz o (.lst xs))) : TyOf K H (.ref a) (.type "list")
 | tup {a : Addr} {xs : List V} (e : H a = some (.tup xs)) : TyOf K H (.ref a) (.type "tuple")
 | dK {a : Addr} {kvs : List (Key × V)} (e : H a = some (.dK kvs)) : TyOf K H (.ref a) (.type "dict")
 | dT {a : Addr} {kvs : List (List Key × V)} (e : H a = some (.dT kvs)) : TyOf K H (.ref a) (.type "dict")
 | ins {a C dx : Addr} {fs : List (Str × V)} (e : H a = some (.ins C dx fs)) (cl : Cls K C) (ha : PySem.W.findIn K (.ref C) "__class__" = some (some (.builtin "object.__class__")))
  (hn : PySem.W.specialIn K (.builtin "object.__class__") "__get__" = some (some (.builtin "getset_descriptor.__get__"))) (htk : PySem.W.takesIn K (.builtin "object.__class__") = some true)
  (hm : PySem.W.mroIn K C (.type "object") = some true) : TyOf K H (.ref a) (.ref C)
theorem ziZ {x : V} {u t : Value} (I : Inv X pins σ H s) (rx : RelV x u) (ty : TyOf X.K H x t) (e : PySem.W.kitOne X.K t c = some b) (h : ∀ tk, Q (.bool b) { s with toks := tk }) :
 wpAny (model X.prog X.w) A (call (.builtin "isinstance") [u, c]) Q E s := by
 cases ty with
 | non => cases (show u = Value.none from rx); exact PySem.W.kia_one PySem.W.kitx_none I.kIn True.intro e (fun z => nomatch z) h
 | bl y => cases (show u = Value.bool y from rx); exact PySem.W.kia_one PySem.W.kitx_bool I.kIn True.intro e (fun z => nomatch z) h
 | int i => obtain ⟨t, q⟩ := (show ∃ t, u = Value.int i t from rx); cases q; exact PySem.W.kia_one PySem.W.kitx_int I.kIn True.intro e (fun z => nomatch z) h
 | str y => obtain ⟨t, q⟩ := (show ∃ t, u = Value.str y t from rx); cases q; exact PySem.W.kia_one PySem.W.kitx_str I.kIn True.intro e (fun z => nomatch z) h
 | flt y => obtain ⟨t, q⟩ := (show ∃ t, u = Value.float y t from rx); cases q; exact PySem.W.kia_one PySem.W.kitx_float I.kIn True.intro e (fun z => nomatch z) h
 | @lst a xs ea =>
  cases (show u = Value.ref a from rx)
  obtain ⟨_, _, n, _, h1⟩ := (show ObjOk X.prog X.w H s.heap a (.lst xs) from I.hok a _ ea)
  exact PySem.W.kia_one PySem.W.kitx_list I.kIn ⟨_, h1, rfl⟩ e (fun z => nomatch z) h
 | @frz a ob xs ea =>
  cases (show u = Value.ref a from rx)
  obtain ⟨_, _, _, n, _, h1⟩ := (show ObjOk X.prog X.w H s.heap a (.frz ob (.lst xs)) from I.hok a _ ea)
  exact PySem.W.kia_one PySem.W.kitx_list I.kIn ⟨_, h1, rfl⟩ e (fun z => nomatch z) h
 | @tup a xs ea =>
  cases (show u = Value.ref a from rx)
  obtain ⟨_, _, _, p⟩ := (show ObjOk X.prog X.w H s.heap a (.tup xs) from I.hok a _ ea)
  obtain ⟨o, h1, h2, _⟩ := p
  exact PySem.W.kia_one PySem.W.kitx_tuple I.kIn ⟨o, h1, h2⟩ e (fun z => nomatch z) h
 | @dK a kvs ea =>
  cases (show u = Value.ref a from rx)
  obtain ⟨_, _, vs, _, p⟩ := (show ObjOk X.prog X.w H s.heap a (.dK kvs) from I.hok a _ ea)
  obtain ⟨o, es, ep, h1, h2, _⟩ := p
  exact PySem.W.kia_one PySem.W.kitx_dict I.kIn ⟨o, h1, h2.1⟩ e (fun z => nomatch z) h
 | @dT a kvs ea =>
  cases (show u = Value.ref a from rx)
  obtain ⟨_, _, xs, _, o, es, ep, h1, h2, _⟩ := (show ObjOk X.prog X.w H s.heap a (.dT kvs) from I.hok a _ ea)
  exact PySem.W.kia_one PySem.W.kitx_dict I.kIn ⟨o, h1, h2.1⟩ e (fun z => nomatch z) h
 | @ins a C dx fs ea cl ha hn htk hm =>
  cases (show u = Value.ref a from rx)
  obtain ⟨mA, O, _⟩ := zkP I.hok ea
  obtain ⟨od, J, _⟩ := O.look
  exact PySem.W.kia_one (PySem.W.kitx_own (cl.get _) cl.hd ha hn htk hm) I.kIn J e (fun z => nomatch z) h
end
structure Room (k : Nat) (A : Around) : Prop where
 hd : A.handled = none
 dp : A.depth + 3 * k + 5 < recursionLimit
 un : A.units + 16 * k + 200 < cLine
 gd : A.guards = some []
theorem Room.mono {j k : Nat} {A : Around} (r : Room k A) (h : j ≤ k) : Room j A := ⟨r.hd, by have := r.dp; omega, by have := r.un; omega, r.gd⟩
theorem Room.deeper {k : Nat} {A : Around} (r : Room (k + 1) A) (env : Env) : Room k (A.deeper env) :=
 ⟨r.hd, by have := r.dp; show A.depth + 1 + 3 * k + 5 < _; omega, by have := r.un; show A.units + 3 + 16 * k + 200 < _; omega, r.gd⟩
theorem zhO {A : Around} {C : Addr} {us : List Value} {kw : List (Str × Value)} : (A.under (.builtin "type.__call__" ⟨.ref C :: us, kw⟩)).depth = A.depth + 1 := by
 first | rfl | simp [Around.under, Code.weight, Code.isCreation, Code.isGuard, Code.isCaller, Code.frames, Code.isFrame, guardIds]
theorem zhN {A : Around} {C : Addr} {us : List Value} {kw : List (Str × Value)} : (A.under (.builtin "type.__call__" ⟨.ref C :: us, kw⟩)).units = A.units + 1 := by
 first | rfl | simp [Around.under, Code.cUnits, Code.frames, Code.isFrame]
theorem zgN {A : Around} {C : Addr} {us : List Value} {kw : List (Str × Value)} : (A.under (.builtin "type.__call__" ⟨.ref C :: us, kw⟩)).guards = A.guards := by
 first | rfl | simp [Around.under, Code.isGuard, guardIds]
theorem Room.make {k : Nat} {A : Around} (r : Room (k + 1) A) (C : Addr) (us : List Value) (kw : List (Str × Value)) : Room k (A.under (.builtin "type.__call__" ⟨.ref C :: us, kw⟩)) :=
 ⟨r.hd, by have := r.dp; rw [zhO]; omega, by have := r.un; rw [zhN]; omega, by rw [zgN]; exact r.gd⟩
theorem Room.depth {k : Nat} {A : Around} (r : Room k A) : A.depth < recursionLimit := by have := r.dp; omega
theorem Room.units {k : Nat} {A : Around} (r : Room k A) : A.units + 64 < cLine := by have := r.un; omega
def tNil : TA := fun _ H Q => Q [] H
def zks (ta : TE) (tr : TA) : TA := fun σ H Q => ta σ H fun x H1 => tr σ H1 fun xs H2 => Q (x :: xs) H2
section
variable {X : Cx} {e : Expr} {es : List Expr} {te : TE} {t : TA} {pos : Pos}
theorem zac : PA X [] tNil := fun _ _ _ _ H Q I h => Calls.spliced_nil ⟨[], H, I, .nil, h⟩
theorem zaa (ha : PE X e te) (hr : PA X es t) (hs : starEach (e :: es) X.env = (false, eval e X.env) :: starEach es X.env := by rfl) : PA X (e :: es) (zks te t) := by
 intro pos pins s σ H Q I h
 rw [hs]
 show wpAny _ _ (spliced ((false, eval e X.env) :: backTo pos (starEach es X.env))) _ _ s
 refine Calls.spliced_cons (thn (ha pins s σ H _ I h) fun u s1 ⟨x, H1, I1, r1, q1⟩ => ?_)
 exact thn (hr pos pins s1 σ H1 _ I1 q1) fun us s2 ⟨xs, H2, I2, r2, q2⟩ => ⟨x :: xs, H2, I2, .cons r1 r2, q2⟩
def tTup (t : TA) : TE := fun σ H Q => t σ H fun xs H1 => xs.length ≤ sizeLine ∧ ∀ p, H1 p = none → Q (.ref p) (upd H1 p (.tup xs))
def tLst (t : TA) : TE := fun σ H Q => t σ H fun xs H1 => xs.length ≤ sizeLine ∧ ∀ p, H1 p = none → Q (.ref p) (upd H1 p (.lst xs))
theorem zaz {x1} (h : PA X es t) : PE X (.Tuple es x1 pos) (tTup t) := by
 intro pins s σ H Q I hq
 refine wpAny_Tuple_spliced (thn (h pos pins s σ H _ I hq) fun us s1 ⟨xs, H1, I1, r, z, q⟩ => ⟨by rw [← r.length]; exact z, ?_⟩)
 have hf : H1 s1.heap.objs.size = none := I1.hok.fresh (Nat.le_refl _)
 refine ⟨.ref s1.heap.objs.size, upd H1 s1.heap.objs.size (.tup xs), I1.laid (t' := s1.toks) (fun b u e => Heap.get?_push_of_some _ e) (Nat.le_refl _) ?_, rfl, q _ hf⟩
 exact ⟨z, us, r, ⟨_, Heap.get?_push_size _ rfl, rfl, rfl, _, rfl⟩⟩
theorem zcf (h : PA X es t) : PE X (.List es pos) (tLst t) := by
 intro pins s σ H Q I hq
 refine wpAny_List_spliced (thn (h pos pins s σ H _ I hq) fun us s1 ⟨xs, H1, I1, r, z, q⟩ => ⟨by rw [← r.length]; exact z, ?_⟩)
 have hf : H1 s1.heap.objs.size = none := I1.hok.fresh (Nat.le_refl _)
 refine ⟨.ref s1.heap.objs.size, upd H1 s1.heap.objs.size (.lst xs), I1.laid (t' := s1.toks) (fun b u e => Heap.get?_push_of_some _ e) (Nat.le_refl _) ?_, rfl, q _ hf⟩
 exact ⟨z, us, 0, r, Heap.get?_push_size _ rfl⟩
end
abbrev Sp := List V → Hp → VK → XK → Prop
abbrev CXT := List Env → Hp → Shared → XK → Value → Shared → Prop
structure Env0 (P : Program) (w : World) (K : PySem.W.Frag) (mg : Str → Option Value) (base : Heap) (A : Around) (outer : List Env) (s : Shared) (H : Hp) : Prop where
 frames : A.frames = some outer
 mod : Mod K mg base
 bs : ∀ b o, base.get? b = some o → s.heap.get? b = some o ∧ H b = none
 bsz : base.objs.size ≤ s.heap.objs.size
 funs : s.heap.FunFrames base outer
 frf : ∀ b ∈ frs outer, H b = none
 hok : HOk P w H s.heap
 bare : AllBare s.gens
def CE (outer : List Env) (P : Program) (w : World) (H : Hp) (s : Shared) (Q : VK) (u : Value) (s' : Shared) : Prop :=
 ∃ v H', s'.os = s.os ∧ AllBare s'.gens ∧ Un (frs outer) [] H H' s.heap s'.heap ∧ HOk P w H' s'.heap ∧ RelV v u ∧ Q v H'
def CR (CX : CXT) (outer : List Env) (P : Program) (w : World) (H : Hp) (s : Shared) (Q : VK) (E : XK) (r : Result) (s' : Shared) : Prop :=
 match r with
 | .ok (.ret u) => CE outer P w H s Q u s'
 | .ok _ => False
 | .error e => CX outer H s E e s'
structure FnOk (P : Program) (w : World) (K : PySem.W.Frag) (mg : Str → Option Value) (base : Heap) (CX : CXT) (k : Nat) (f : Addr) (fd : FuncData) (ps : List Str) (sp : Sp) : Prop where
 len : ∀ vs H Q E, sp vs H Q E → vs.length = ps.length
 run : ∀ (A : Around) (outer : List Env) (s : Shared) (H : Hp) (args : Args) (us : List Value) (vs : List V) (Q : VK) (E : XK), Room k A → Env0 P w K mg base A outer s H → BindsTo s fd args (ps.zip us) → Vals vs us → sp vs H Q E →
  codeAny (model P w) A (.call (.ref f) args) (CR CX outer P w H s Q E) s
theorem Env0.make {P : Program} {w : World} {K : PySem.W.Frag} {mg : Str → Option Value} {base : Heap} {A : Around} {outer : List Env} {s : Shared} {H : Hp} (e : Env0 P w K mg base A outer s H) (C : Addr) (us : List Value) (kw : List (Str × Value)) :
 Env0 P w K mg base (A.under (.builtin "type.__call__" ⟨.ref C :: us, kw⟩)) outer s H := ⟨by first | exact e.frames | (simpa [Around.under, Code.envs, Code.isFrame, pushEnvs] using e.frames), e.mod, e.bs, e.bsz, e.funs, e.frf, e.hok, e.bare⟩
section
variable {X : Cx} {pins : List (Addr × Obj)} {σ : St} {H : Hp} {s s' : Shared}
theorem Inv.env0 (I : Inv X pins σ H s) : Env0 X.prog X.w X.K X.mg X.base X.A X.stack s H :=
 ⟨I.ok.frames, I.ok.mod, I.bs, Nat.le_trans I.ok.bsz I.sz, I.stack, I.stkFree, I.hok, I.bare⟩
theorem Inv.after {Q : VK} {u : Value} (I : Inv X pins σ H s) (h : CE X.stack X.prog X.w H s Q u s') : EP X pins σ Q u s' := by
 obtain ⟨v, H', os, bare, un, hok, r, q⟩ := h
 obtain ⟨hh, g, d, t, os'⟩ := s'
 obtain rfl : os' = s.os := os
 exact ⟨v, H', I.call (h' := hh) (g' := g) (d' := d) (t' := t) (ch := []) un hok bare (fun b z => absurd z (by simp)), r, q⟩
end
def zkt (sp : Sp) (dvs : List V) (E : XK) (t : TA) : TE := fun σ H Q => t σ H fun vs H1 => sp (vs ++ dvs) H1 Q E
def Binds (K : PySem.W.Frag) (fd : FuncData) (ps : List Str) (ds : List Value) : Prop :=
 ∀ (s : Shared) (us : List Value), K.In s.heap → (us ++ ds).length = ps.length → BindsTo s fd ⟨us, []⟩ (ps.zip (us ++ ds))
theorem Binds.all {K : PySem.W.Frag} {fd : FuncData} {ps : List Str} (h : ∀ us : List Value, us.length = ps.length → bindArgs fd ⟨us, []⟩ = pure (ps.zip us)) : Binds K fd ps [] := fun s us _ hl => by
 rw [List.append_nil] at hl ⊢
 exact .of_eq (h us hl)
def zhp (CX : CXT) (X : Cx) (E : XK) : Prop := ∀ (pins : List (Addr × Obj)) (σ : St) (H : Hp) (s : Shared) (e : Value) (s' : Shared), Inv X pins σ H s → CX X.stack H s E e s' → X.xe e s'
section
variable {X : Cx} {CX : CXT} {k : Nat} {f C : Addr} {fd : FuncData} {ps : List Str} {sp : Sp} {dvs : List V} {ds : List Value} {E : XK} {x m : Str} {p pos apos : Pos} {e o : Expr} {es : List Expr} {ta : TE} {t : TA}
theorem zll {pins : List (Addr × Obj)} {σ : St} {H : Hp} {s : Shared} {Q : VK} {us : List Value} {vs : List V} (F : FnOk X.prog X.w X.K X.mg X.base CX k f fd ps sp) (hr : Room k X.A) (hb : Binds X.K fd ps ds) (hd : Vals dvs ds) (hx : zhp CX X E)
 (I : Inv X pins σ H s) (r : Vals vs us) (h : sp (vs ++ dvs) H Q E) : wpAny (model X.prog X.w) X.A (call (.ref f) us) (EP X pins σ Q) X.xe s := by
 have r2 : Vals (vs ++ dvs) (us ++ ds) := r.append hd
 have hl : (us ++ ds).length = ps.length := by rw [← r2.length]; exact F.len _ _ _ _ h
 refine wpAny_call (codeAny_mono (F.run X.A X.stack s H ⟨us, []⟩ (us ++ ds) (vs ++ dvs) Q E hr I.env0 (hb s us I.kIn hl) r2 h) fun r s' hq => ?_)
 cases r with
 | error e => exact hx pins σ H s e s' I hq
 | ok fl =>
  cases fl with
  | ret u => exact I.after hq
  | next => exact False.elim hq
  | brk => exact False.elim hq
  | cont => exact False.elim hq
theorem ziv (F : FnOk X.prog X.w X.K X.mg X.base CX k f fd ps sp) (hr : Room k X.A) (hg : Gl X x) (hm : X.mg x = some (.ref f)) (hk : PySem.W.keepIn X.K (.ref f) = true) (hb : Binds X.K fd ps ds) (hd : Vals dvs ds) (hx : zhp CX X E)
 (ha : PA X (e :: es) t) (hdb : (x == ("__debug__" : Str)) = false := by decide) (he : starEach (e :: es) X.env = (false, eval e X.env) :: starEach es X.env := by rfl) (hpl : (backTo pos (starEach es X.env)).any (·.1) = false := by rfl) :
 PE X (.Call (.Name x p) (e :: es) [] pos) (zkt sp dvs E t) := by
 intro pins s σ H Q I h
 refine wpAny_Call_Name_kw (zd5 I hg hm ?_ hdb)
 refine PySem.W.callWith_K (h₀ := X.base) I.ok.mod.kin hk (thn (ha pos pins s σ H _ I h) fun us s1 ⟨vs, H1, I1, r, q⟩ => ⟨I1.kIn, ?_⟩) he hpl
 exact zll F hr hb hd hx I1 r q
end
def PK (X : Cx) (kws : List Keyword) (t : TA) : Prop :=
 ∀ (pos : Pos) (pins : List (Addr × Obj)) (s : Shared) (σ : St) (H : Hp) (Q : List V → Hp → Prop), Inv X pins σ H s → t σ H Q → wpAny (model X.prog X.w) X.A (evalAll ((backToKw pos (keywordEach kws X.env)).map (·.2))) (AP X pins σ Q) X.xe s
section
variable {X : Cx} {CX : CXT} {k : Nat} {f C : Addr} {fd : FuncData} {ps ks : List Str} {sp : Sp} {E : XK} {x m : Str} {p pos apos kpos : Pos} {e o : Expr} {es : List Expr} {kws : List Keyword} {te ta : TE} {t tk : TA} {nm : Option Str}
theorem zj4 : PK X [] tNil := fun _ _ _ _ H Q I h => wpAny_evalAll_nil ⟨[], H, I, .nil, h⟩
theorem ziq (ha : PE X e te) (hr : PK X kws t) : PK X (⟨nm, e, kpos⟩ :: kws) (zks te t) := by
 intro pos pins s σ H Q I h
 show wpAny _ _ (evalAll ((do let v ← eval e X.env; standAt pos; pure v) :: (backToKw pos (keywordEach kws X.env)).map (·.2))) _ _ s
 refine wpAny_evalAll_cons (wpAny_bind (thn (ha pins s σ H _ I h) fun u s1 ⟨x, H1, I1, r1, q1⟩ => wpAny_bind (wpAny_standAt (wpAny_pure ?_))))
 exact thn (hr pos pins s1 σ H1 _ I1 q1) fun us s2 ⟨xs, H2, I2, r2, q2⟩ => ⟨x :: xs, H2, I2, .cons r1 r2, q2⟩
variable {g : List Value → List Value → List Value} {gV : List V → List V → List V}
end
structure FnScope (N P : List Str) (sc : Scope) : Prop where
 kind : sc.kind = .function
 co : sc.isCoroutine = false
 gen : sc.isGenerator = false
 nd : N.Nodup
 pre : N.take P.length = P
 par : ∀ x ∈ P, sc.names.lookup x = some .local ∨ sc.names.lookup x = some .cell
 nofree : ∀ y ∈ sc.names, y.2 ≠ .free
theorem zfN {kindOf : Str → Option NameKind} {x : Str} : ∀ {binds : List (Str × Value)} {m : Str → Option Value}, (∀ v, (x, v) ∉ binds) → bindL kindOf binds m x = m x
 | [], _, _ => rfl
 | (n, v) :: r, m, h => by
  unfold bindL
  rw [zfN fun w hw => h w (List.mem_cons_of_mem _ hw)]
  split
  · have : x ≠ n := by rintro rfl; exact h v List.mem_cons_self
    simp [this]
  · rfl
theorem zfP {kindOf : Str → Option NameKind} {x : Str} : ∀ {binds : List (Str × Value)} {m : Str → Option Value}, (∀ v, (x, v) ∉ binds) → bindC kindOf binds m x = m x
 | [], _, _ => rfl
 | (n, v) :: r, m, h => by
  unfold bindC
  rw [zfP fun w hw => h w (List.mem_cons_of_mem _ hw)]
  split
  · rfl
  · have : x ≠ n := by rintro rfl; exact h v List.mem_cons_self
    simp [this]
theorem zfO {kindOf : Str → Option NameKind} {x : Str} {v : Value} : ∀ {P : List Str} {vs : List Value} {i : Nat} {m : Str → Option Value}, P.Nodup → P[i]? = some x → vs[i]? = some v → kindOf x = some .local →
 bindL kindOf (P.zip vs) m x = some v
 | [], _, _, _, _, h, _, _ => by simp at h
 | _ :: _, [], _, _, _, _, h, _ => by simp at h
 | p :: P, w :: vs, 0, m, nd, h1, h2, hk => by
  simp at h1 h2; subst h1; subst h2
  show bindL kindOf ((p, w) :: P.zip vs) m p = _
  unfold bindL
  rw [zfN fun v hv => (List.nodup_cons.mp nd).1 (List.of_mem_zip hv).1, if_pos hk]
  simp
 | p :: P, w :: vs, i + 1, m, nd, h1, h2, hk => by
  show bindL kindOf ((p, w) :: P.zip vs) m x = _
  unfold bindL
  exact zfO (i := i) (List.nodup_cons.mp nd).2 (by simpa using h1) (by simpa using h2) hk
theorem zfQ {kindOf : Str → Option NameKind} {x : Str} {v : Value} : ∀ {P : List Str} {vs : List Value} {i : Nat} {m : Str → Option Value}, P.Nodup → P[i]? = some x → vs[i]? = some v → kindOf x ≠ some .local →
 bindC kindOf (P.zip vs) m x = some v
 | [], _, _, _, _, h, _, _ => by simp at h
 | _ :: _, [], _, _, _, _, h, _ => by simp at h
 | p :: P, w :: vs, 0, m, nd, h1, h2, hk => by
  simp at h1 h2; subst h1; subst h2
  show bindC kindOf ((p, w) :: P.zip vs) m p = _
  unfold bindC
  rw [zfP fun v hv => (List.nodup_cons.mp nd).1 (List.of_mem_zip hv).1, if_neg hk]
  simp
 | p :: P, w :: vs, i + 1, m, nd, h1, h2, hk => by
  show bindC kindOf ((p, w) :: P.zip vs) m x = _
  unfold bindC
  exact zfQ (i := i) (List.nodup_cons.mp nd).2 (by simpa using h1) (by simpa using h2) hk
def zeE (N : List Str) (vs : List V) : St := vs.map some ++ List.replicate (N.length - vs.length) none
def cxOf (CX : CXT) (P : Program) (w : World) (K : PySem.W.Frag) (mg : Str → Option Value) (base : Heap) (N : List Str) (qual : Str) (scope : Scope) (f : Addr) (cd : Value) (A : Around) (outer : List Env) (s : Shared) (H : Hp) (E : XK) : Cx where
 prog := P
 w := w
 K := K
 mg := mg
 base := base
 A := A.deeper (envOfC qual scope s.heap.objs.size f cd)
 N := N
 s₀ := s
 H₀ := H
 env := envOfC qual scope s.heap.objs.size f cd
 outer := outer
 stack := envOfC qual scope s.heap.objs.size f cd :: outer
 ex := []
 calm := true
 fn := fun _ => true
 pn := []
 xe := fun e s' => wpAny (model P w) (A.deeper (envOfC qual scope s.heap.objs.size f cd)) (leaving (envOfC qual scope s.heap.objs.size f cd) e) (fun _ s'' => CX outer H s E e s'') (fun e' s'' => CX outer H s E e' s'') s'
theorem zhm {sc : Scope} {n : Nat} {x : Str} (h : sc.names.lookup x = some .cell) : ∃ c, (cellsFrom n sc.names []).lookup x = some c := by
 have q := PySem.W.cellsFrom_some sc.names n [] (.inl h)
 exact Option.isSome_iff_exists.mp q
theorem zi2 {CX : CXT} {P : Program} {w : World} {K : PySem.W.Frag} {mg : Str → Option Value} {base : Heap} {N ps : List Str} {qual : Str} {scope : Scope} {f : Addr} {cd : Value} {A : Around} {outer : List Env} {s s1 : Shared} {H : Hp} {E : XK} {us : List Value} {vs : List V}
 (S : FnScope N ps scope) (hd : A.handled = none) (e0 : Env0 P w K mg base A outer s H) (hl : vs.length = ps.length) (r : Vals vs us)
 (x : InCallC s s.heap.objs.size (bindL (envOfC qual scope s.heap.objs.size f cd).kindOf (ps.zip us) fun _ => none) (cellsFrom (s.heap.objs.size + 1) scope.names []) (bindC (envOfC qual scope s.heap.objs.size f cd).kindOf (ps.zip us) fun _ => none) s1) :
 Inv (cxOf CX P w K mg base N qual scope f cd A outer s H E) [] (zeE N vs) H s1 := by
 have hpl : ps.length ≤ N.length := by have := congrArg List.length S.pre; rw [List.length_take] at this; omega
 obtain ⟨h1, tk, rfl, hk⟩ := x.done
 have noA : ∀ b : Addr, b ∉ (cxOf CX P w K mg base N qual scope f cd A outer s H E).ex := fun b z => absurd (show b ∈ ([] : List Addr) from z) (by simp)
 refine ⟨⟨e0.mod, S.kind, rfl, rfl, Nat.le_refl _, fun y z c h1 h2 => ?_, fun y hy => ?_, fun y c _ h => ?_, fun _ => hd, Around.frames_deeper e0.frames, .inr ⟨rfl, rfl⟩, fun b z => absurd z (noA b), e0.bs, e0.bsz, fun b _ _ => noA b, fun b z => absurd z (noA b), e0.funs, e0.frf⟩,
  rfl, e0.bare, Un.kept hk, ⟨_, x.toInCall.ns, fun i y v h1 h2 h3 => ?_⟩, fun y c h => ⟨_, x.cell y c h⟩, e0.hok.fresh (Nat.le_refl _), fun y c h => ?_, fun p hp => absurd (show p ∈ ([] : List (Addr × Obj)) from hp) (by simp), e0.hok.kept hk, ?_⟩
 · exact name_of_addr x.apart (PySem.mem_of_lookup h1) (PySem.mem_of_lookup h2)
 · have hy : scope.names.lookup y = some .cell ∨ scope.names.lookup y = some .free := hy
   rcases hy with hy | hy
   · exact zhm hy
   · exact absurd rfl (S.nofree _ (PySem.mem_of_lookup hy))
 · exact Nat.le_of_lt (x.above y c (PySem.mem_of_lookup h))
 · have hi : i < vs.length := by
    unfold zeE at h2
    by_cases hi : i < vs.length
    · exact hi
    · rw [List.getElem?_append_right (by simpa using hi)] at h2
      rw [List.getElem?_replicate] at h2
      split at h2 <;> cases h2
   have ha : vs[i]? = some v := by
    unfold zeE at h2
    rw [List.getElem?_append_left (by simpa using hi), List.getElem?_map] at h2
    cases e : vs[i]? with
    | none => rw [e] at h2; cases h2
    | some a => rw [e] at h2; cases h2; rfl
   obtain ⟨u, hu, rv⟩ := r.get ha
   have hp : ps[i]? = some y := by
    rw [← S.pre, List.getElem?_take_of_lt (by omega)]; exact h1
   have ndP : ps.Nodup := by rw [← S.pre]; exact S.nd.sublist (List.take_sublist _ _)
   refine ⟨u, rv, ?_⟩
   rcases S.par y (List.mem_of_getElem? hp) with k | k
   · exact .inl ⟨k, zfO ndP hp hu k⟩
   · obtain ⟨c, e⟩ := zhm (n := s.heap.objs.size + 1) k
     refine .inr ⟨.inl k, c, e, ?_⟩
     have q := x.cell y c e
     rw [zfQ ndP hp hu (by show scope.names.lookup y ≠ _; rw [k]; decide)] at q
     exact q
 · exact e0.hok.fresh (Nat.le_of_lt (x.above y c (PySem.mem_of_lookup h)))
 · unfold zeE
   show _ = N.length
   rw [List.length_append, List.length_map, List.length_replicate]
   omega
theorem zlR {CX : CXT} {P : Program} {w : World} {K : PySem.W.Frag} {mg : Str → Option Value} {base : Heap} {k : Nat} {f : Addr} {name qual : Str} {params : Arguments} {body : List Stmt} {scope : Scope} {dV kV doc pm cdv ct oc : Value} {an od : Option Addr}
 {osl : Array (Option Value)} {N ps : List Str} {sp : Sp} (lk : K.lookup f = some ⟨oc, od, .func (PySem.W.fnOf name qual params body scope dV kV doc pm an cdv ct), osl⟩) (hcd : PySem.W.codeIn K cdv qual = true) (S : FnScope N ps scope)
 (len : ∀ vs H Q E, sp vs H Q E → vs.length = ps.length)
 (hbody : ∀ (A : Around) (outer : List Env) (s : Shared) (H : Hp) (vs : List V) (Q : VK) (E : XK), Room k (A.deeper (envOfC qual scope s.heap.objs.size f cdv)) → sp vs H Q E →
  ∃ t, PSs (cxOf CX P w K mg base N qual scope f cdv A outer s H E) body t ∧ t { nx := fun _ H' => Q .non H', rt := Q } (zeE N vs) H) :
 FnOk P w K mg base CX (k + 1) f (PySem.W.fnOf name qual params body scope dV kV doc pm an cdv ct) ps sp := by
 refine ⟨len, fun A outer s H args us vs Q E hr e0 hb r hsp => ?_⟩
 have hl := len _ _ _ _ hsp
 have KX : K.In s.heap := e0.mod.kin.keeps fun b o e => (e0.bs b o e).1
 have lim : s.heap.NoLimit := e0.mod.nolimit.keeps fun b o e => (e0.bs b o e).1
 have hkind : ∀ y ∈ ps.zip us, scope.names.lookup y.1 = some .local ∨ (scope.names.lookup y.1 = some .cell ∧ ((cellsFrom (s.heap.objs.size + 1) scope.names []).lookup y.1).isSome = true) := fun ⟨n, v⟩ hy => by
  rcases S.par n (List.of_mem_zip hy).1 with q | q
  · exact .inl q
  · exact .inr ⟨q, PySem.W.cellsFrom_some _ _ _ (.inl q)⟩
 refine codeAny_call_function hr.depth (KX _ _ lk) rfl S.co S.gen rfl (PySem.W.codeRec_of KX hcd) (hb _ _ _ _ ?_)
 refine wpAny_newFunctionEnv_cells S.kind hkind fun env he s1 x => ?_
 subst he
 refine ⟨lim.keeps x.toInCall.keep, codeAny_func ?_⟩
 obtain ⟨t, ht, hq⟩ := hbody A outer s H vs Q E (hr.deeper _) hsp
 have I : Inv (cxOf CX P w K mg base N qual scope f cdv A outer s H E) [] (zeE N vs) H s1 := zi2 S hr.hd e0 hl r x
 refine wpAny_mono (ht [] s1 (zeE N vs) H _ I hq) (fun fl s' hs => ?_) fun e s' hs => hs
 have fin : ∀ {σ' : St} {H' : Hp} {v : V} {u : Value}, Inv (cxOf CX P w K mg base N qual scope f cdv A outer s H E) [] σ' H' s' → RelV v u → Q v H' → CE outer P w H s Q u s' :=
  fun {σ' H' v u} J rv q => ⟨v, H', J.os, J.bare, J.base, J.hok, rv, q⟩
 cases fl with
 | ret u =>
  obtain ⟨v, σ', H', J, rv, q⟩ := hs
  exact fin J rv q
 | next =>
  obtain ⟨σ', H', J, q⟩ := hs
  exact fin (v := V.non) (u := Value.none) J rfl q
 | brk =>
  obtain ⟨_, _, _, q⟩ := hs
  exact False.elim q
 | cont =>
  obtain ⟨_, _, _, q⟩ := hs
  exact False.elim q
section
variable {X : Cx} {x : Str} {p pos : Pos} {e : Expr} {es : List Expr} {t : TA} {id T : String} {r : List V → Hp → VK → Prop}
def tCB (r : List V → Hp → VK → Prop) (t : TA) : TE := fun σ H Q => t σ H fun vs H1 => r vs H1 Q
theorem zan (hc : zdg X (.builtin id) r) (hg : Gl X x) (hm : X.mg x = none) (hv : bootBuiltins x = some (.builtin id)) (ha : PA X (e :: es) t) (hn : x ≠ "__name__" := by decide) (hdb : (x == ("__debug__" : Str)) = false := by decide)
 (he : starEach (e :: es) X.env = (false, eval e X.env) :: starEach es X.env := by rfl) (hpl : (backTo pos (starEach es X.env)).any (·.1) = false := by rfl) : PE X (.Call (.Name x p) (e :: es) [] pos) (tCB r t) := by
 intro pins s σ H Q I h
 refine wpAny_Call_Name_kw (zcY I hg hm hv ?_ hn hdb)
 exact PyProof.Rows.callWith_builtin1 (thn (ha pos pins s σ H _ I h) fun us s1 ⟨vs, H1, I1, r1, q1⟩ => hc pins s1 σ H1 vs us Q I1 r1 q1) he hpl
theorem zbI (hc : zdg X (.type T) r) (hg : Gl X x) (hm : X.mg x = none) (hv : bootBuiltins x = some (.type T)) (ha : PA X (e :: es) t) (hn : x ≠ "__name__" := by decide) (hdb : (x == ("__debug__" : Str)) = false := by decide)
 (he : starEach (e :: es) X.env = (false, eval e X.env) :: starEach es X.env := by rfl) (hpl : (backTo pos (starEach es X.env)).any (·.1) = false := by rfl) : PE X (.Call (.Name x p) (e :: es) [] pos) (tCB r t) := by
 intro pins s σ H Q I h
 refine wpAny_Call_Name_kw (zcY I hg hm hv ?_ hn hdb)
 exact PyProof.Rows.callWith_type1 (thn (ha pos pins s σ H _ I h) fun us s1 ⟨vs, H1, I1, r1, q1⟩ => hc pins s1 σ H1 vs us Q I1 r1 q1) he hpl
end
end L2
namespace HT
open PySem PyProof.Rows
section
open PySem.SeqAt
open PySem.AutoSeq1 (wpAny_loadPart')
open PySem.MeetsSeq PySem.MeetsSeq2 PySem.MeetsSeq3
end
section
variable {prog : Program} {w : World} {A : Around} {E : Value → Shared → Prop} {s : Shared}
def sIx (n d : Nat) : Option Int → Nat
 | none => d
 | some v => if v < 0 then (v + (n : Int)).toNat else min v.toNat n
theorem sIx_nat (n d k : Nat) : sIx n d (some (k : Int)) = min k n := by
 show (if (k : Int) < 0 then ((k : Int) + (n : Int)).toNat else min (k : Int).toNat n) = min k n
 rw [if_neg (by omega), Int.toNat_natCast]
theorem zlk (n d : Nat) (hd : d ≤ n) (o : Option Int) : sIx n d o ≤ n := by
 cases o with
 | none => exact hd
 | some v =>
  show (if v < 0 then (v + (n : Int)).toNat else min v.toNat n) ≤ n
  by_cases hv : v < 0
  · rw [if_pos hv]; omega
  · rw [if_neg hv]; exact Nat.min_le_right _ _
theorem zje (v : Int) (n d : Nat) : (if v < 0 then max (v + (n : Int)) 0 else min v (n : Int)) = ((sIx n d (some v) : Nat) : Int) := by
 show (if v < 0 then max (v + (n : Int)) 0 else min v (n : Int)) = (((if v < 0 then (v + (n : Int)).toNat else min v.toNat n) : Nat) : Int)
 by_cases hv : v < 0
 · simp only [if_pos hv]; omega
 · simp only [if_neg hv]; omega
theorem zhV (lo hi : Option Int) (n : Nat) : Builtin.Slice.sliceAdjust lo hi 1 (n : Int) = (((sIx n 0 lo : Nat) : Int), ((sIx n n hi : Nat) : Int)) := by
 have h1 : ¬ ((1 : Int) < 0) := by omega
 unfold Builtin.Slice.sliceAdjust
 simp only [h1, if_false]
 refine Prod.ext ?_ ?_
 · cases lo with
   | none => rfl
   | some v => exact zje v n 0
 · cases hi with
   | none => rfl
   | some v => exact zje v n n
theorem zhC (i j : Nat) : Builtin.Slice.slicePlaces (i : Int) (j : Int) 1 = j - i := by
 unfold Builtin.Slice.slicePlaces
 have h1 : (1 : Int) > 0 := by omega
 simp only [h1, if_true, Int.ediv_one]
 split <;> omega
theorem zej {v : Value} {o : Option Int} {Q : Option Int → Shared → Prop} (p : IsPart v o) (h : Q o s) : wpAny (model prog w) A (Builtin.Slice.slicePartIndex v) Q E s := by
 cases p with
 | none => exact slicePart_none h
 | int i t => exact slicePart_int h
theorem sliceApplied_gen {sl : Addr} {vl vu : Value} {lo hi : Option Int} {n : Nat} {Q : Int × Int × Nat → Shared → Prop} (hs : s.heap.IsSliceOf sl vl vu .none) (pl : IsPart vl lo) (pu : IsPart vu hi)
 (h : Q (((sIx n 0 lo : Nat) : Int), 1, sIx n n hi - sIx n 0 lo) s) : wpAny (model prog w) A (Builtin.Slice.sliceApplied (.ref sl) (pure (n : Int))) Q E s := by
 obtain ⟨os, hos, hcs, hds⟩ := id hs
 unfold Builtin.Slice.sliceApplied Builtin.Slice.sliceFields
 refine wpAny_bind (wpAny_bind (wpAny_field hos hds (x := vl) rfl (wpAny_bind (wpAny_field hos hds (x := vu) rfl (wpAny_bind (wpAny_field hos hds (x := .none) rfl (wpAny_pure ?_)))))))
 refine wpAny_bind (slicePart_none ?_)
 show wpAny _ _ (if ((1 : Int) == 0) = true then _ else _) _ _ s
 rw [if_neg (by decide)]
 refine wpAny_bind (zej pl (wpAny_bind (zej pu (wpAny_bind (wpAny_pure ?_)))))
 show wpAny _ _ (match Builtin.Slice.sliceAdjust lo hi 1 (n : Int) with | (lo, hi) => pure (lo, (1 : Int), Builtin.Slice.slicePlaces lo hi 1)) _ _ s
 rw [zhV lo hi n]
 show wpAny _ _ (pure (((sIx n 0 lo : Nat) : Int), (1 : Int), Builtin.Slice.slicePlaces ((sIx n 0 lo : Nat) : Int) ((sIx n n hi : Nat) : Int) 1)) _ _ s
 rw [zhC]
 exact wpAny_pure h
theorem zjB (xs : Array Value) (i k : Nat) : ((List.range k).filterMap fun (m : Nat) => xs[((i : Int) + (m : Int) * 1).toNat]?).toArray = ((xs.toList.drop i).take k).toArray := by
 have e : (fun (m : Nat) => xs[((i : Int) + (m : Int) * 1).toNat]?) = fun m => xs[i + m]? := by
  funext m
  have : ((i : Int) + (m : Int) * 1).toNat = i + m := by omega
  rw [this]
 rw [e]
 have := pick_run xs i k
 rw [List.filterMap_map] at this
 have e2 : ((fun x => xs[x]?) ∘ fun x => i + x) = fun m => xs[i + m]? := rfl
 rw [e2] at this
 rw [this]
theorem getItem_tuple_cut {t sl : Addr} {items : Array Value} {vl vu : Value} {lo hi : Option Int} {Q : Value → Shared → Prop} (ht : IsTup s.heap t items) (hs : s.heap.IsSliceOf sl vl vu .none) (pl : IsPart vl lo) (pu : IsPart vu hi)
 (hw : ¬ (sIx items.size 0 lo = 0 ∧ sIx items.size items.size hi = items.size))
 (h : Q (.ref s.heap.objs.size) { s with heap := s.heap.push { cls := .type "tuple", data := .seq ((items.toList.drop (sIx items.size 0 lo)).take (sIx items.size items.size hi - sIx items.size 0 lo)).toArray } })
 (hsz : items.size ≤ sizeLine) : wpAny (model prog w) A (getItem (.ref t) (.ref sl)) Q E s := by
 have htake : sizeOk (.seq ((items.toList.drop (sIx items.size 0 lo)).take (sIx items.size items.size hi - sIx items.size 0 lo)).toArray) := by
  show ((items.toList.drop (sIx items.size 0 lo)).take (sIx items.size items.size hi - sIx items.size 0 lo)).toArray.size ≤ sizeLine
  rw [List.size_toArray, List.length_take, List.length_drop, Array.length_toList]
  omega
 have hj : sIx items.size items.size hi ≤ items.size := zlk _ _ (Nat.le_refl _) hi
 obtain ⟨os, hos, hcs, hds⟩ := id hs
 have hTs : s.TypeIs (.ref sl) "slice" := ⟨os, hos, hcs⟩
 unfold getItem
 try with_reducible refine wpAny_holding ?_
 first | refine wpAny_bind (wpAny_pure ?_) | skip
 refine wpAny_bind (wpAny_sequenceKey ht.typeIs (by decide) ?_)
 refine wpAny_bind (wpAny_callSpecial?_slot (name := Str.ofString "__getitem__") ht.typeIs PyProof.Rows.slot_tuple_getitem
  (wpAny_call_entry PyProof.Rows.slot_tuple_getitem ht.typeIs entry_tuple_getitem ?_ (args_tuple_getitem _ _)))
 show wpAny _ _ (Builtin.Tuple.tupleItemsOf (.ref t) >>= _) _ _ s
 refine wpAny_bind (tupleItemsOf_ ht ?_)
 refine wpAny_bind (wpAny_typeOf hTs ?_)
 rw [if_pos (by decide)]
 refine wpAny_bind (sliceApplied_gen hs pl pu ?_)
 have hno : ¬ ((((sIx items.size 0 lo : Nat) : Int) == 0 && (1 : Int) == 1 && (sIx items.size items.size hi - sIx items.size 0 lo) == items.size) = true) := by
  intro q
  rw [Bool.and_eq_true, Bool.and_eq_true] at q
  have q1 : ((sIx items.size 0 lo : Nat) : Int) = 0 := eq_of_beq q.1.1
  have q2 : sIx items.size items.size hi - sIx items.size 0 lo = items.size := eq_of_beq q.2
  exact hw ⟨by omega, by omega⟩
 show wpAny _ _ (if (((sIx items.size 0 lo : Nat) : Int) == 0 && (1 : Int) == 1 && (sIx items.size items.size hi - sIx items.size 0 lo) == items.size) = true then _ else _) _ _ s
 rw [if_neg hno, zjB]
 first
  | exact wpAny_bind (m := Builtin.Tuple.tupleExact _) (wpAny_newObj_type (wpAny_pure ⟨_, rfl, wpAny_pure h⟩) htake)
  | exact wpAny_bind (m := Builtin.Tuple.tupleExact _) (wpAny_newObj_type (wpAny_bind (wpAny_pure (wpAny_pure ⟨_, rfl, wpAny_pure h⟩))) htake)
  | exact wpAny_bind (wpAny_bind (m := Builtin.Tuple.tupleExact _) (wpAny_newObj_type (wpAny_pure (wpAny_pure ⟨_, rfl, wpAny_pure h⟩)) htake))
  | exact wpAny_bind (wpAny_bind (m := Builtin.Tuple.tupleExact _) (wpAny_newObj_type (wpAny_pure ⟨_, rfl, wpAny_pure h⟩) htake))
end
end HT
namespace L2
open PySem PySem.Spec PyProof.Rows
abbrev TO := St → Hp → (Option Int → Hp → Prop) → Prop
def PO (X : Cx) (e : Option Expr) (t : TO) : Prop :=
 ∀ (pins : List (Addr × Obj)) (s : Shared) (σ : St) (H : Hp) (Q : Option Int → Hp → Prop), Inv X pins σ H s → t σ H Q →
  wpAny (model X.prog X.w) X.A (evalPart e X.env) (fun u s' => ∃ o H', Inv X pins σ H' s' ∧ IsPart u o ∧ Q o H') X.xe s
def zh2 : TO := fun _ H Q => Q none H
def zmb (t : TE) : TO := fun σ H Q => t σ H fun x H1 => ∃ i, x = .int i ∧ Q (some i) H1
section
variable {X : Cx} {e : Expr} {te : TE} {lo hi : Option Expr} {tl th : TO} {pos p2 : Pos}
theorem zdT : PO X none zh2 := by
 intro pins s σ H Q I h
 rw [evalPart_none]
 exact wpAny_pure ⟨none, H, I, .none, h⟩
theorem zdS (h : PE X e te) : PO X (some e) (zmb te) := by
 intro pins s σ H Q I hw
 rw [evalPart_some]
 refine thn (h pins s σ H _ I hw) fun u s1 ⟨x, H1, I1, r1, q1⟩ => ?_
 obtain ⟨i, rfl, q⟩ := q1
 obtain ⟨t, rfl⟩ := r1
 exact ⟨some i, H1, I1, .int i t, q⟩
def SlR (X : Cx) (r : V → Option Int → Option Int → Hp → VK → Prop) : Prop :=
 ∀ (pins : List (Addr × Obj)) (s : Shared) (σ : St) (H : Hp) (x : V) (v vl vu : Value) (lo hi : Option Int) (sl : Addr) (Q : VK), Inv X pins σ H s → RelV x v → s.heap.IsSliceOf sl vl vu .none → IsPart vl lo → IsPart vu hi → r x lo hi H Q →
  ∃ T id, typeLookup (.type T) "__getitem__" = pure (some (.builtin id)) ∧ s.TypeIs v T ∧ wpAny (model X.prog X.w) X.A (getItem v (.ref sl)) (EP X pins σ Q) X.xe s
def tSl (r : V → Option Int → Option Int → Hp → VK → Prop) (te : TE) (tl th : TO) : TE := fun σ H Q => te σ H fun x H1 => tl σ H1 fun l H2 => th σ H2 fun u H3 => r x l u H3 Q
theorem zcV {r : V → Option Int → Option Int → Hp → VK → Prop} (hr : SlR X r) (he : PE X e te) (hl : PO X lo tl) (hu : PO X hi th) : PE X (.Subscript e (.Slice lo hi none p2) pos) (tSl r te tl th) := by
 intro pins s σ H Q I h
 refine Subscript_ (thn (he pins s σ H _ I h) fun v s1 ⟨x, H1, I1, r1, q1⟩ => ?_)
 refine wpAny_Slice (thn (hl pins s1 σ H1 _ I1 q1) fun vl s2 ⟨l, H2, I2, pl, q2⟩ => thn (hu pins s2 σ H2 _ I2 q2) fun vu s3 ⟨u, H3, I3, pu, q3⟩ => ?_)
 rw [evalPart_none]
 refine wpAny_pure ?_
 have I4 : Inv X pins σ H3 { s3 with heap := s3.heap.push { cls := .type "slice", data := .fields #[vl, vu, .none] } } := I3.kept (t' := s3.toks) fun b ob q => Heap.get?_push_of_some _ q
 obtain ⟨T, id, hT, ht, hg⟩ := hr pins { s3 with heap := s3.heap.push { cls := .type "slice", data := .fields #[vl, vu, .none] } } σ H3 x v vl vu l u s3.heap.objs.size Q I4 r1 (Heap.IsSliceOf.new ..) pl pu q3
 show wpAny (model X.prog X.w) X.A (subscriptTail e (.Slice lo hi none p2) v (.ref s3.heap.objs.size)) (EP X pins σ Q) X.xe { s3 with heap := s3.heap.push { cls := .type "slice", data := .fields #[vl, vu, .none] } }
 exact tail_any (ops := [.ref s3.heap.objs.size, v]) ht hT hg (by with_unfolding_all rfl)
def cutV (xs : List V) (lo hi : Option Int) : List V := (xs.drop (HT.sIx xs.length 0 lo)).take (HT.sIx xs.length xs.length hi - HT.sIx xs.length 0 lo)
theorem zd9 (xs : List V) (lo hi : Option Int) : (cutV xs lo hi).length ≤ xs.length := by
 unfold cutV
 rw [List.length_take, List.length_drop]
 omega
def rSlT (K : PySem.W.Frag) : V → Option Int → Option Int → Hp → VK → Prop := fun x lo hi H Q => ∃ a xs, x = .ref a ∧ SqT K H a xs ∧
 ¬ (HT.sIx xs.length 0 lo = 0 ∧ HT.sIx xs.length xs.length hi = xs.length) ∧ ∀ p, H p = none → Q (.ref p) (upd H p (.tup (cutV xs lo hi)))
theorem zlj : SlR X (rSlT X.K) := by
 intro pins s σ H x v vl vu lo hi sl Q I rx hs pl pu h
 obtain ⟨a, xs, rfl, hx, hw, q⟩ := h
 cases rx
 obtain ⟨its, r, ht, hz⟩ := I.tuple hx
 have hlen : its.toArray.size = xs.length := by rw [List.size_toArray]; exact r.length.symm
 refine ⟨"tuple", _, PyProof.Rows.slot_tuple_getitem.lookup, ht.typeIs, ?_⟩
 refine HT.getItem_tuple_cut ht hs pl pu (by rw [hlen]; exact hw) ?_ (by rw [hlen]; exact hz)
 rw [hlen]
 refine ⟨.ref s.heap.objs.size, _, I.laid (t' := s.toks) (o := .tup (cutV xs lo hi)) (fun b ob q => Heap.get?_push_of_some _ q) (Nat.le_refl _) ?_, rfl, q _ (I.hok.fresh (Nat.le_refl _))⟩
 exact ⟨Nat.le_trans (zd9 xs lo hi) hz, _, (r.drop (HT.sIx xs.length 0 lo)).take (HT.sIx xs.length xs.length hi - HT.sIx xs.length 0 lo), IsTupP.new _ _⟩
end
def ixN (n : Nat) (i : Int) : Option Nat := if 0 ≤ i then (if i < n then some i.toNat else none) else if -(n : Int) ≤ i then some (i + n).toNat else none
def atI {α : Type} (xs : List α) (i : Int) : Option α := (ixN xs.length i).bind fun j => xs[j]?
theorem zgQ {n : Nat} {i : Int} {j : Nat} (h : ixN n i = some j) : seqIndex? i n = some j ∧ j < n ∧ -(n : Int) ≤ i ∧ i < n := by
 unfold ixN at h
 by_cases h0 : 0 ≤ i
 · rw [if_pos h0] at h
   by_cases h1 : i < n
   · rw [if_pos h1] at h
     have e : i.toNat = j := Option.some.inj h
     exact ⟨by rw [seqIndex_of h0 h1, e], by omega, by omega, h1⟩
   · rw [if_neg h1] at h; cases h
 · rw [if_neg h0] at h
   by_cases h1 : -(n : Int) ≤ i
   · rw [if_pos h1] at h
     have e : (i + n).toNat = j := Option.some.inj h
     exact ⟨by rw [seqIndex_neg (by omega) h1, e], by omega, h1, by omega⟩
   · rw [if_neg h1] at h; cases h
theorem zg0 {α : Type} {xs : List α} {i : Int} {v : α} (h : atI xs i = some v) : ∃ j, seqIndex? i xs.length = some j ∧ xs[j]? = some v ∧ j < xs.length ∧ -(xs.length : Int) ≤ i ∧ i < xs.length := by
 unfold atI at h
 cases e : ixN xs.length i with
 | none => rw [e] at h; cases h
 | some j =>
  rw [e] at h
  obtain ⟨h1, h2, h3, h4⟩ := zgQ e
  exact ⟨j, h1, h, h2, h3, h4⟩
theorem zcb {α : Type} {xs : List α} {j : Nat} {v : α} (h : xs[j]? = some v) : atI xs (j : Int) = some v := by
 have hj : j < xs.length := (List.getElem?_eq_some_iff.mp h).1
 have e : ixN xs.length (j : Int) = some j := by
  unfold ixN
  rw [if_pos (by omega), if_pos (by omega)]; simp
 unfold atI; rw [e]; exact h
def zk2 (b : Expr) : Prop := ∀ o i, subscripted b false o i = operate [o, i] (getItem o i)
def IxR (X : Cx) (r : R2) : Prop :=
 ∀ (value slice : Expr) (pins : List (Addr × Obj)) (s : Shared) (σ : St) (H : Hp) (x y : V) (v u : Value) (Q : VK), Inv X pins σ H s → RelV x v → RelV y u → r x y H Q →
  subscripted slice false v u = operate [v, u] (getItem v u) → wpAny (model X.prog X.w) X.A (subscriptTail value slice v u) (EP X pins σ Q) X.xe s
def MtR (X : Cx) (id : String) (r : V → List V → Hp → VK → Prop) : Prop :=
 ∀ (pins : List (Addr × Obj)) (s : Shared) (σ : St) (H : Hp) (x : V) (xs : List V) (v : Value) (us : List Value) (Q : VK), Inv X pins σ H s → RelV x v → Vals xs us → r x xs H Q →
  wpAny (model X.prog X.w) X.A (call (.builtin id) (v :: us)) (EP X pins σ Q) X.xe s
section
variable {X : Cx} {a b : Expr} {ta tb : TE} {pos : Pos}
theorem zaA {r : R2} (hr : IxR X r) (ha : PE X a ta) (hb : PE X b tb) (hs : zk2 b) : PE X (.Subscript a b pos) (tOp r ta tb) := by
 intro pins s σ H Q I h
 exact Subscript_ (binT ha hb I h fun v u s2 x y H2 I2 rx ry q => hr a b pins s2 σ H2 x y v u Q I2 rx ry q (hs _ _))
def rIxL (K : PySem.W.Frag) : R2 := fun x y H Q => ∃ p xs i v, x = .ref p ∧ y = .int i ∧ SqL K H p xs ∧ atI xs i = some v ∧ Q v H
def rIxT (K : PySem.W.Frag) : R2 := fun x y H Q => ∃ p xs i v, x = .ref p ∧ y = .int i ∧ SqT K H p xs ∧ atI xs i = some v ∧ Q v H
def rIxS : R2 := fun x y H Q => ∃ z i c, x = .str z ∧ y = .int i ∧ z.length ≤ sizeLine ∧ atI z.cps.toList i = some c ∧ Q (.str ⟨#[c]⟩) H
theorem zaD : IxR X (rIxL X.K) := by
 intro value slice pins s σ H x y v u Q I rx ry h hs
 obtain ⟨p, xs, i, z, rfl, rfl, hq, he, q⟩ := h
 cases rx
 obtain ⟨t, rfl⟩ := ry
 obtain ⟨its, r, pl, hz⟩ := I.list hq
 obtain ⟨j, h1, h2, h3, h4, h5⟩ := zg0 he
 obtain ⟨w, ew, rw'⟩ := r.get h2
 have hl := r.length
 have hn := zd2
 have fin : EP X pins σ Q w s := ⟨z, H, I, rw', q⟩
 by_cases h0 : 0 ≤ i
 · have hj : i.toNat = j := by
    rw [seqIndex_of h0 h5] at h1
    exact Option.some.inj h1
   exact item_listR pl.isList h0 (by omega) (by rw [hj]; simpa using ew) fin hs
 · have hj : (i + (its.toArray.size : Int)).toNat = j := by
    rw [seqIndex_neg (by omega) h4] at h1
    rw [List.size_toArray, ← hl]
    exact Option.some.inj h1
   exact subscriptTail_builtinR (x := w) pl.isList.typeIs slot_list_getitem.lookup
    (wpAny_getItem_list_neg (Q := fun r s' => r = w ∧ EP X pins σ Q r s') pl.isList (by omega) (by rw [List.size_toArray] <;> omega) (by omega) (by rw [hj]; simpa using ew) ⟨rfl, fin⟩) hs
theorem zaW : IxR X (rIxT X.K) := by
 intro value slice pins s σ H x y v u Q I rx ry h hs
 obtain ⟨p, xs, i, z, rfl, rfl, hq, he, q⟩ := h
 cases rx
 obtain ⟨t, rfl⟩ := ry
 obtain ⟨its, r, pl, hz⟩ := I.tuple hq
 obtain ⟨j, h1, h2, h3, h4, h5⟩ := zg0 he
 obtain ⟨w, ew, rw'⟩ := r.get h2
 have hl := r.length
 have hn := zd2
 have fin : EP X pins σ Q w s := ⟨z, H, I, rw', q⟩
 exact subscriptTail_builtinR (x := w) pl.typeIs slot_tuple_getitem.lookup
  (getItem_tuple (j := j) (Q := fun r s' => r = w ∧ EP X pins σ Q r s') pl (by omega) (by omega) (by rw [List.size_toArray, ← hl]; exact h1) (by simpa using ew) ⟨rfl, fin⟩) hs
theorem ziX : IxR X rIxS := by
 intro value slice pins s σ H x y v u Q I rx ry h hs
 obtain ⟨z, i, c, rfl, rfl, hz, he, q⟩ := h
 obtain ⟨t, rfl⟩ := rx
 obtain ⟨t', rfl⟩ := ry
 obtain ⟨j, h1, h2, h3, h4, h5⟩ := zg0 he
 have hl : z.cps.toList.length = z.length := by simp [Str.length]
 rw [hl] at h1 h4 h5
 have hn := zd2
 exact tail_any (typeIs_str s z t) slot_str_getitem.lookup (getItem_str (c := c) (by
  have e1 : decide (i < -(2 ^ 63 : Int)) = false := decide_eq_false (by omega)
  have e2 : decide (i ≥ 2 ^ 63) = false := decide_eq_false (by omega)
  rw [e1, e2, Bool.or_false]) (by rw [h1]; simpa using h2) ⟨.str ⟨#[c]⟩, H, I.tok _, ⟨_, rfl⟩, q⟩) hs
theorem zhM (its : List Value) (n j : Nat) (u : Value) : Obj.mapSeq (·.setIfInBounds j u) { cls := .type "list", data := .seq its.toArray n } = { cls := .type "list", data := .seq (its.set j u).toArray n } := by
 simp [Obj.mapSeq]
theorem Inv.lst {pins : List (Addr × Obj)} {σ : St} {H : Hp} {s : Shared} {p : Addr} {xs : List V} (I : Inv X pins σ H s) (h : H p = some (.lst xs)) :
 ∃ (its : List Value) (n : Nat), Vals xs its ∧ s.heap.get? p = some { cls := .type "list", data := .seq its.toArray n } ∧ xs.length ≤ sizeLine := by
 obtain ⟨z, its, n, r, e⟩ := I.hok p _ h
 exact ⟨its, n, r, e, z⟩
theorem Inv.lstUpd {pins : List (Addr × Obj)} {σ : St} {H : Hp} {s : Shared} {p : Addr} {xs ys : List V} {its its' : List Value} {n n' : Nat} {f : Obj → Obj} (I : Inv X pins σ H s) (h : H p = some (.lst xs))
 (ho : s.heap.get? p = some { cls := .type "list", data := .seq its.toArray n }) (hf : f { cls := .type "list", data := .seq its.toArray n } = { cls := .type "list", data := .seq its'.toArray n' }) (r : Vals ys its') (hz : ys.length ≤ sizeLine) (t : Nat) :
 Inv X pins σ (upd H p (.lst ys)) { s with heap := s.heap.update p f, toks := t } := by
 have e : (s.heap.update p f).get? p = some { cls := .type "list", data := .seq its'.toArray n' } := by
  rw [Heap.get?_update_self f ho (by rw [hf] <;> rfl), hf]
 refine I.write (x := p) (e := p) (by rw [h]; trivial) (.inl rfl) (fun b u hb q => (Heap.get?_update_other _ _ (Ne.symm hb)).trans q) ⟨_, e⟩ ?_
 exact ⟨hz, its', n', r, e⟩
def zmi : V → V → V → Hp → (Hp → Prop) → Prop := fun o i v H Q => ∃ p xs k j, o = .ref p ∧ i = .int k ∧ H p = some (.lst xs) ∧ ixN xs.length k = some j ∧ Q (upd H p (.lst (xs.set j v)))
theorem zeO : PSet X zmi := by
 intro pins s σ H o i v ov iv u Q I ro ri rv h
 obtain ⟨p, xs, k, j, rfl, rfl, hp, hj, q⟩ := h
 cases ro
 obtain ⟨t, rfl⟩ := ri
 obtain ⟨its, n, r, ho, hz⟩ := I.lst hp
 obtain ⟨h1, h2, h3, h4⟩ := zgQ hj
 have hl := r.length
 have hn := zd2
 have I' : Inv X pins σ (upd H p (.lst (xs.set j v))) { s with heap := s.heap.update p (Obj.mapSeq (·.setIfInBounds j u)) } :=
  I.lstUpd hp ho (zhM its n j u) (r.set rv j) (by rw [List.length_set]; exact hz) s.toks
 by_cases h0 : 0 ≤ k
 · have hk : k.toNat = j := by
    rw [seqIndex_of h0 h4] at h1
    exact Option.some.inj h1
   exact PySem.W.ki_setAt ho h0 (by omega) (by rw [List.size_toArray, ← hl]; exact h4) (by rw [hk]; exact ⟨_, I', q⟩)
 · have hk : (k + (its.toArray.size : Int)).toNat = j := by
    rw [seqIndex_neg (by omega) h3] at h1
    rw [List.size_toArray, ← hl]
    exact Option.some.inj h1
   exact PySem.W.ki_setBack ho (by omega) (by rw [List.size_toArray, ← hl]; exact h3) (by omega) (by rw [hk]; exact ⟨_, I', q⟩)
theorem zfl (lo hi : Option Int) (n : Nat) : (sliceBounds lo hi none n).1 = ((HT.sIx n 0 lo : Nat) : Int) ∧ (sliceBounds lo hi none n).2.1 = ((HT.sIx n n hi : Nat) : Int) ∧ (sliceBounds lo hi none n).2.2 = 1 := by
 refine ⟨?_, ?_, rfl⟩
 · cases lo with
   | none => simp [sliceBounds, HT.sIx]
   | some i =>
    simp only [sliceBounds, HT.sIx, Option.getD_none, show (1 : Int) > 0 by decide, if_true]
    by_cases h : i < 0
    · simp only [h, if_true] <;> omega
    · simp only [h, if_false] <;> omega
 · cases hi with
   | none => simp [sliceBounds, HT.sIx]
   | some i =>
    simp only [sliceBounds, HT.sIx, Option.getD_none, show (1 : Int) > 0 by decide, if_true]
    by_cases h : i < 0
    · simp only [h, if_true] <;> omega
    · simp only [h, if_false] <;> omega
theorem zeM (its : List Value) (lo hi : Option Int) : slicePick its.toArray lo hi none = ((its.drop (HT.sIx its.length 0 lo)).take (HT.sIx its.length its.length hi - HT.sIx its.length 0 lo)).toArray := by
 obtain ⟨h1, h2, h3⟩ := zfl lo hi its.toArray.size
 unfold slicePick
 rw [h1, h2, h3]
 simp only [sliceRange_one, pick_run, List.size_toArray] <;> rfl
def rSlL (K : PySem.W.Frag) : V → Option Int → Option Int → Hp → VK → Prop := fun x lo hi H Q => ∃ a xs, x = .ref a ∧ SqL K H a xs ∧ ∀ p, H p = none → Q (.ref p) (upd H p (.lst (cutV xs lo hi)))
theorem zie : SlR X (rSlL X.K) := by
 intro pins s σ H x v vl vu lo hi sl Q I rx hs pl pu h
 obtain ⟨a, xs, rfl, hx, q⟩ := h
 cases rx
 obtain ⟨its, r, ht, hz⟩ := I.list hx
 have hlen := r.length
 refine ⟨"list", _, slot_list_getitem.lookup, ht.isList.typeIs, ?_⟩
 refine wpAny_getItem_list_slice ht.isList hs pl pu .none (by simp) ?_ (by rw [List.size_toArray] <;> omega)
 rw [zeM, ← hlen]
 refine ⟨.ref s.heap.objs.size, _, I.laid (t' := s.toks) (o := .lst (cutV xs lo hi)) (fun b ob q => Heap.get?_push_of_some _ q) (Nat.le_refl _) ?_, rfl, q _ (I.hok.fresh (Nat.le_refl _))⟩
 exact ⟨Nat.le_trans (zd9 xs lo hi) hz, _, 0, (r.drop (HT.sIx xs.length 0 lo)).take (HT.sIx xs.length xs.length hi - HT.sIx xs.length 0 lo), Heap.get?_push_size _ rfl⟩
theorem zaO : zdg X (.builtin "len") (fun xs H Q => ∃ p ys, xs = [.ref p] ∧ (SqL X.K H p ys ∨ SqT X.K H p ys) ∧ Q (.int ys.length) H) := by
 intro pins s σ H xs us Q I r h
 obtain ⟨p, ys, rfl, hq, q⟩ := h
 obtain ⟨u, rfl, rx⟩ := zc3 r
 cases rx
 have hn := zd2
 rcases hq with hq | hq
 · obtain ⟨its, r', pl, hz⟩ := I.list hq
   have hlen := r'.length
   exact Calls.call_len_list pl.isList (by simp only [List.size_toArray] <;> omega) ⟨.int ys.length, H, I.tok _, ⟨s.toks + 1, by rw [List.size_toArray, hlen]⟩, q⟩
 · obtain ⟨its, r', pl, hz⟩ := I.tuple hq
   have hlen := r'.length
   exact len_tuple pl (by simp only [List.size_toArray] <;> omega) ⟨.int ys.length, H, I.tok _, ⟨s.toks + 1, by rw [List.size_toArray, hlen]⟩, q⟩
theorem zdm : zdg X (.builtin "len") (fun xs H Q => ∃ z, xs = [.str z] ∧ z.length ≤ sizeLine ∧ Q (.int z.length) H) := by
 intro pins s σ H xs us Q I r h
 obtain ⟨z, rfl, hz, q⟩ := h
 obtain ⟨u, rfl, t, rfl⟩ := zc3 r
 have hn := zd2
 exact len_str (by omega) ⟨.int z.length, H, I.tok _, ⟨_, rfl⟩, q⟩
theorem zbB : zdg X (.type "tuple") (fun xs H Q => ∃ p ys, xs = [.ref p] ∧ ((SqL X.K H p ys ∧ ∀ l, H l = none → Q (.ref l) (upd H l (.tup ys))) ∨ (SqT X.K H p ys ∧ Q (.ref p) H))) := by
 intro pins s σ H xs us Q I r h
 obtain ⟨p, ys, rfl, h⟩ := h
 obtain ⟨u, rfl, rx⟩ := zc3 r
 cases rx
 rcases h with ⟨hq, q⟩ | ⟨hq, q⟩
 · obtain ⟨its, r', pl, hz⟩ := I.list hq
   have hlen := r'.length
   refine call_tuple_list pl.isList (fun h' kp => ?_) (by simp only [List.size_toArray] <;> omega)
   have I1 : Inv X pins σ H { s with heap := h' } := I.kept (t' := s.toks) kp
   have I2 : Inv X pins σ (upd H h'.objs.size (.tup ys)) { s with heap := h'.push { cls := .type "tuple", data := .seq its.toArray } } :=
    I1.laid (t' := s.toks) (fun b o e => Heap.get?_push_of_some _ e) (Nat.le_refl _) (show ObjOk X.prog X.w _ _ _ (.tup ys) from ⟨hz, its, r', IsTupP.new _ _⟩)
   exact ⟨.ref h'.objs.size, _, I2, rfl, q _ (I1.hok.fresh (Nat.le_refl _))⟩
 · obtain ⟨its, r', pl, hz⟩ := I.tuple hq
   exact call_tuple_same pl ⟨.ref p, H, I, rfl, q⟩
def tyV (K : PySem.W.Frag) (T : String) (x : V) (H : Hp) : Prop := match x with
 | .str _ => T = "str"
 | .int _ => T = "int"
 | .ref p => (T = "list" ∧ ∃ xs, SqL K H p xs) ∨ (T = "tuple" ∧ ∃ o, K.lookup p = some o ∧ o.cls = .type "tuple" ∧ o.dict = none) ∨
  (T = "dict" ∧ ((∃ kvs, H p = some (.dK kvs)) ∨ ∃ kvs, H p = some (.dT kvs))) ∨ (T = "set" ∧ ∃ S n, H p = some (.set S n))
 | _ => False
theorem zla {pins : List (Addr × Obj)} {σ : St} {H : Hp} {s : Shared} {T : String} {x : V} {v : Value} (I : Inv X pins σ H s) (r : RelV x v) (ty : tyV X.K T x H) :
 s.TypeIs v T ∧ ∀ a, v = .ref a → ∃ ob, s.heap.get? a = some ob ∧ ob.dict = none := by
 cases x with
 | str z =>
  obtain ⟨t, rfl⟩ := r
  cases (show T = "str" from ty)
  exact ⟨typeIs_str s z t, fun _ e => nomatch e⟩
 | int i =>
  obtain ⟨t, rfl⟩ := r
  cases (show T = "int" from ty)
  exact ⟨typeIs_int s i t, fun _ e => nomatch e⟩
 | ref p =>
  cases r
  rcases ty with ⟨rfl, xs, hq⟩ | ⟨rfl, o, hk, hc, hd⟩ | ⟨rfl, hk⟩ | ⟨rfl, S, n, hk⟩
  · obtain ⟨its, _, pl, _⟩ := I.list hq
    refine ⟨pl.isList.typeIs, fun a e => ?_⟩
    cases e
    obtain ⟨o, n, e, c, hd, _⟩ := pl
    exact ⟨o, e, hd⟩
  · refine ⟨⟨o, I.kIn p o hk, hc⟩, fun a e => ?_⟩
    cases e
    exact ⟨o, I.kIn _ o hk, hd⟩
  · have z : ∃ o, s.heap.get? p = some o ∧ o.ExactDict := by
     rcases hk with ⟨kvs, hk⟩ | ⟨kvs, hk⟩
     · obtain ⟨_, _, _, _, o, _, _, e, ex, _⟩ := I.hok p _ hk
       exact ⟨o, e, ex⟩
     · obtain ⟨_, _, _, _, o, _, _, e, ex, _⟩ := I.hok p _ hk
       exact ⟨o, e, ex⟩
    obtain ⟨o, e, ex⟩ := z
    refine ⟨⟨o, e, ex.1⟩, fun a e2 => ?_⟩
    cases e2
    exact ⟨o, e, ex.2.1⟩
  · obtain ⟨o, _, _, _, e, ex, _⟩ := I.hok p _ hk
    refine ⟨⟨o, e, ex.1⟩, fun a e2 => ?_⟩
    cases e2
    exact ⟨o, e, ex.2.1⟩
 | _ => exact False.elim ty
def tBM (K : PySem.W.Frag) (T : String) (r : V → List V → Hp → VK → Prop) (to : TE) (t : TA) : TE := fun σ H Q => to σ H fun x H1 => tyV K T x H1 ∧ t σ H1 fun xs H2 => r x xs H2 Q
variable {o e : Expr} {es : List Expr} {to : TE} {t : TA} {name : Str} {apos cpos : Pos} {T id : String} {r : V → List V → Hp → VK → Prop}
theorem zcM (pa : PlainAttrs T) (slot : Slot T name id) (hty : typeOf (.builtin id) = pure (.type "method_descriptor")) (hm : MtR X id r) (ho : PE X o to) (ha : PA X (e :: es) t)
 (hbase : attributeBase o name X.env (eval o X.env) = eval o X.env := by rfl)
 (hfew : ((backTo cpos (starEach (e :: es) X.env)).all (fun x => !x.1) && (backToKw cpos (keywordEach [] X.env)).all (fun x => x.1.isSome)
  && decide ((e :: es).length + ([] : List Keyword).length + (if ([] : List Keyword).isEmpty then 0 else 1) < 30)) = true := by rfl)
 (hline : (apos.endLine == cpos.line) = true := by rfl) (hs : starEach (e :: es) X.env = (false, eval e X.env) :: starEach es X.env := by rfl) (hplain : (backTo cpos (starEach es X.env)).any (·.1) = false := by rfl) :
 PE X (.Call (.Attribute o name apos) (e :: es) [] cpos) (tBM X.K T r to t) := by
 intro pins s σ H Q I h
 refine wpAny_Call_method_late hbase hfew hline rfl (thn (ho pins s σ H _ I h) fun v s1 ⟨x, H1, I1, r1, ty, q1⟩ => ?_)
 obtain ⟨h1, h2⟩ := zla I1 r1 ty
 refine ⟨T, id, pa, slot, hty, h1, h2, ?_⟩
 have hA := ha cpos pins s1 σ H1 _ I1 q1
 rw [hs] at hA ⊢
 refine Calls.callWith_builtin (by show (false || (backTo cpos (starEach es X.env)).any (·.1)) = false; rw [hplain] <;> rfl) (Calls.evalArgs_plain ?_)
 exact thn hA fun us s2 ⟨vs, H2, I2, r2, q2⟩ => hm pins s2 σ H2 x vs v us Q I2 r1 r2 q2
end
def MtM (X : Cx) (id : String) (r : V → List V → Hp → VK → Prop) : Prop :=
 ∀ (pins : List (Addr × Obj)) (s : Shared) (σ : St) (H : Hp) (x : V) (xs : List V) (v : Value) (us : List Value) (Q : VK), Inv X pins σ H s → RelV x v → Vals xs us → r x xs H Q →
  wpAny (model X.prog X.w) X.A (call (.builtin id) (v :: us)) (EP X pins σ Q) X.xe s
theorem Vals.one : ∀ {x : V} {us : List Value}, Vals [x] us → ∃ u, us = [u] ∧ RelV x u
 | _, _, .cons r .nil => ⟨_, rfl, r⟩
theorem Vals.eraseIdx : ∀ {xs : List V} {us : List Value} (i : Nat), Vals xs us → Vals (xs.eraseIdx i) (us.eraseIdx i)
 | _, _, _, .nil => .nil
 | _, _, 0, .cons _ t => t
 | _, _, i + 1, .cons r t => .cons r (Vals.eraseIdx i t)
theorem zfC {α : Type} : ∀ (l : List α) (i : Nat), (l.eraseIdx i).length ≤ l.length
 | [], _ => Nat.le_refl _
 | _ :: _, 0 => Nat.le_succ _
 | _ :: r, i + 1 => Nat.succ_le_succ (zfC r i)
section
variable {X : Cx} {pins : List (Addr × Obj)} {σ : St} {H : Hp} {s : Shared} {l b : Addr} {xs ys zs : List V}
theorem Inv.lset {its its' : List Value} {n : Nat} {f : Array Value → Array Value} {t' : Nat} (I : Inv X pins σ H s) (hH : H l = some (.lst xs))
 (e : s.heap.get? l = some { cls := .type "list", data := .seq its.toArray n }) (hf : f its.toArray = its'.toArray) (hv : Vals ys its') (hz : ys.length ≤ sizeLine) :
 Inv X pins σ (upd H l (.lst ys)) { s with heap := s.heap.update l (Obj.mapSeq f), toks := t' } := by
 have q := PySem.IsL.update e f
 rw [hf] at q
 refine I.write (x := l) (e := l) (by rw [hH]; exact trivial) (.inl rfl) (fun b' u hb hu => (Heap.get?_update_other s.heap (Obj.mapSeq f) (Ne.symm hb)).trans hu) ⟨_, q⟩ ?_
 exact ⟨hz, its', _, hv, q⟩
theorem Inv.lnew {its : List Value} {t' : Nat} (I : Inv X pins σ H s) (hv : Vals ys its) (hz : ys.length ≤ sizeLine) :
 Inv X pins σ (upd H s.heap.objs.size (.lst ys)) { s with heap := s.heap.push { cls := .type "list", data := .seq its.toArray }, toks := t' } :=
 I.laid (fun _ _ q => Heap.get?_push_of_some _ q) (Nat.le_refl _) ⟨hz, its, 0, hv, Heap.get?_push_size _ rfl⟩
theorem Inv.fresh (I : Inv X pins σ H s) : H s.heap.objs.size = none := I.hok.fresh (Nat.le_refl _)
theorem Inv.lstM (I : Inv X pins σ H s) (hH : H l = some (.lst xs)) : xs.length ≤ sizeLine ∧ ∃ (its : List Value) (n : Nat), Vals xs its ∧ xs.length = its.length ∧ s.heap.get? l = some { cls := .type "list", data := .seq its.toArray n } := by
 obtain ⟨z, its, n, r, e⟩ := I.hok l _ hH
 exact ⟨z, its, n, r, r.length, e⟩
theorem zhf {n : Nat} (h : n ≤ sizeLine) : Builtin.List.listTooLong n = false := by
 unfold Builtin.List.listTooLong
 exact decide_eq_false (by omega)
end
section
variable {X : Cx}
def zkD : V → List V → Hp → VK → Prop := fun x vs H Q => ∃ l xs y, x = .ref l ∧ vs = [y] ∧ H l = some (.lst xs) ∧ xs.length < sizeLine ∧ Q .non (upd H l (.lst (xs ++ [y])))
theorem zcl : MtM X "list.append" zkD := by
 intro pins s σ H x vs v us Q I rx rv h
 obtain ⟨l, xs, y, rfl, rfl, hH, hz, q⟩ := h
 cases rx
 obtain ⟨u, rfl, ru⟩ := rv.one
 obtain ⟨z, its, n, r, hl, e⟩ := I.lstM hH
 refine call_meets F.slot_list_append ⟨_, e, rfl⟩ F.entry_list_append (F.args_list_append_2 _ _) (PySem.list_append l its.toArray n u (by rw [List.size_toArray]; omega)) ⟨e, ?_⟩
 refine ⟨.non, _, I.lset (its' := its ++ [u]) hH e (by simp) (r.append (.cons ru .nil)) ?_, rfl, q⟩
 rw [List.length_append, List.length_singleton]
 omega
def zlo : V → List V → Hp → VK → Prop := fun x vs H Q => ∃ l xs i k y, x = .ref l ∧ vs = [.int i] ∧ H l = some (.lst xs) ∧ -(2 ^ 63) ≤ i ∧ i < 2 ^ 63 ∧ seqIndex? i xs.length = some k ∧ xs[k]? = some y ∧ Q y (upd H l (.lst (xs.eraseIdx k)))
theorem zjI : MtM X "list.pop" zlo := by
 intro pins s σ H x vs v us Q I rx rv h
 obtain ⟨l, xs, i, k, y, rfl, rfl, hH, h1, h2, hk, hy, q⟩ := h
 cases rx
 obtain ⟨u, rfl, ru⟩ := rv.one
 obtain ⟨t, rfl⟩ := ru
 obtain ⟨z, its, n, r, hl, e⟩ := I.lstM hH
 obtain ⟨w, hw, rw'⟩ := r.get hy
 refine call_meets F.slot_list_pop ⟨_, e, rfl⟩ F.entry_list_pop (F.args_list_pop_2 _ _)
  (MeetsSeq.list_pop_at l its.toArray n i t k w (fitsIndex_both h1 h2) (by rw [List.size_toArray, ← hl]; exact hk) (by rw [← Array.getElem?_toList]; exact hw) (by rw [List.size_toArray]; omega)) ⟨e, ?_⟩
 refine ⟨y, _, I.lset (its' := its.eraseIdx k) hH e ?_ (r.eraseIdx k) ?_, rw', q⟩
 · show its.toArray.eraseIdxIfInBounds k = (its.eraseIdx k).toArray
   rw [List.eraseIdxIfInBounds_toArray]
 · have := zfC xs k
   omega
def rCat : R2 := fun x y H Q => ∃ l b xs zs, x = .ref l ∧ y = .ref b ∧ H l = some (.lst xs) ∧ H b = some (.lst zs) ∧ xs.length + zs.length ≤ sizeLine ∧ ∀ p, H p = none → Q (.ref p) (upd H p (.lst (xs ++ zs)))
theorem zlA : OpR X (binaryOp .Add) rCat := by
 intro pins s σ H x y v u Q I rx ry h
 obtain ⟨l, b, xs, zs, rfl, rfl, hH, hB, hz, q⟩ := h
 cases rx
 cases ry
 obtain ⟨z, its, n, r, hl, e⟩ := I.lstM hH
 obtain ⟨z2, its2, n2, r2, hl2, e2⟩ := I.lstM hB
 refine PySem.P.add_list e e2 ?_ (by rw [List.size_toArray, List.size_toArray]; omega)
 have ea : its.toArray ++ its2.toArray = (its ++ its2).toArray := by simp
 rw [ea]
 exact ⟨.ref _, _, I.lnew (t' := s.toks) (r.append r2) (by rw [List.length_append]; omega), rfl, q _ I.fresh⟩
end
section
variable {prog : Program} {w : World} {A : Around} {E : Value → Shared → Prop} {s : Shared}
theorem zhU {a c n : Nat} (hac : a ≤ c) (hc : c ≤ n) : sliceBounds (some (a : Int)) (some (c : Int)) none n = ((a : Int), (c : Int), 1) := by
 simp only [sliceBounds, Option.getD_none]
 have h1 : ¬ ((a : Int) < 0) := by omega
 have h2 : ¬ ((c : Int) < 0) := by omega
 simp only [h1, h2, if_false, show (1 : Int) > 0 by decide, if_true]
 congr 1
 · omega
 · congr 1; omega
set_option maxRecDepth 100000 in
theorem setItem_slice {l b sl : Addr} {items new : Array Value} {n n2 : Nat} {vl vu : Value} {a c : Nat} {Q : Unit → Shared → Prop}
 (e : s.heap.get? l = some { cls := .type "list", data := .seq items n }) (e2 : s.heap.get? b = some { cls := .type "list", data := .seq new n2 }) (hne : l ≠ b)
 (hs : s.heap.IsSliceOf sl vl vu .none) (pl : IsPart vl (some (a : Int))) (pu : IsPart vu (some (c : Int))) (hac : a ≤ c) (hc : c ≤ items.size)
 (hsz : items.size + new.size ≤ sizeLine) (h : Q () { s with heap := s.heap.update l (Obj.mapSeq fun xs => xs.extract 0 a ++ new ++ xs.extract c xs.size) }) :
 wpAny (model prog w) A (setItem (.ref l) (.ref sl) (.ref b)) Q E s := by
 have hl : s.heap.IsList l items := PySem.IsL.isList e
 have hb : s.heap.IsList b new := PySem.IsL.isList e2
 obtain ⟨os, hos, hcs, hds⟩ := id hs
 have hTs : s.TypeIs (.ref sl) "slice" := ⟨os, hos, hcs⟩
 have hstep : ¬ ((rawPart none == rawInt 0) = true) := Bool.false_ne_true
 have hsame : Builtin.List.listSameRef (.ref l) (.ref b) = false := by
  unfold Builtin.List.listSameRef
  exact beq_eq_false_iff_ne.mpr hne
 have hmax : (max (a : Int) (c : Int)).toNat = c := by omega
 have hz' : ((fun xs : Array Value => xs.extract 0 a ++ new ++ xs.extract c xs.size) items).size ≤ sizeLine + 1 := by
  simp only [Array.size_append, Array.size_extract]
  omega
 unfold setItem
 try with_reducible refine wpAny_holding ?_
 first | refine wpAny_bind (wpAny_pure ?_) | skip
 refine wpAny_bind (wpAny_sequenceKey hl.typeIs (by decide) ?_)
 refine wpAny_bind (wpAny_callSpecial?_slot (name := Str.ofString "__setitem__") hl.typeIs slot_list_setitem
  (wpAny_call_entry slot_list_setitem hl.typeIs entry_list_setitem ?_ (args_list_setitem _ _ _)))
 show wpAny _ _ (Builtin.List.listSubscript? (.ref sl) >>= _) _ _ s
 refine wpAny_bind ?_
 unfold Builtin.List.listSubscript?
 refine wpAny_bind (wpAny_specialOf hTs slice_no_index ?_)
 simp only [Option.isNone_none, if_true]
 refine wpAny_pure ?_
 show wpAny _ _ (typeOf (.ref sl) >>= _) _ _ s
 refine wpAny_bind (wpAny_typeOf hTs ?_)
 first
  | rw [if_neg (by decide)]
  | refine PySem.W.KFB.if_not (by decide) ?_
 rw [listSliceParts_eq]
 refine wpAny_bind (wpAny_bind (wpAny_field hos hds (x := .none) rfl (wpAny_bind (wpAny_listPart .none ?_))))
 rw [if_neg hstep]
 refine wpAny_bind (wpAny_field hos hds (x := vl) rfl (wpAny_bind (wpAny_listPart pl ?_)))
 refine wpAny_bind (wpAny_field hos hds (x := vu) rfl (wpAny_bind (wpAny_listPart pu (wpAny_pure ?_))))
 first
  | simp only [hsame, Bool.false_eq_true, if_false]
  | refine PySem.W.KFB.if_not hsame ?_
  | (dsimp only
     rw [if_neg (by rw [hsame]; exact Bool.false_ne_true)])
 refine wpAny_bind (m := Builtin.List.listAllItems (.ref b) "must assign iterable to extended slice") ?_
 unfold Builtin.List.listAllItems
 refine wpAny_bind (wpAny_typeOf hb.typeIs ?_)
 first
  | refine PySem.W.KFB.if_so (by decide) ?_
  | rw [if_pos (by decide)]
  | simp only [beq_self_eq_true, Bool.true_or, if_true]
 unfold Builtin.List.listItems
 refine wpAny_bind (wpAny_seqItems e2 rfl (wpAny_pure ?_))
 refine wpAny_bind (wpAny_bind (wpAny_seqItems e rfl (wpAny_pure ?_)))
 refine wpAny_bind (wpAny_of_eq ((sliceIndices_raw (some (a : Int)) (some (c : Int)) none items.size (by simp)).trans (congrArg (pure : Int × Int × Int → Sem (Int × Int × Int)) (zhU hac hc))) ?_)
 show wpAny _ _ (if ((1 : Int) == 1) = true then _ else _) _ _ s
 rw [if_pos (by decide)]
 refine wpAny_bind (wpAny_rule ?_)
 first
  | simp only [zhf hsz, Bool.false_eq_true, if_false]
  | refine PySem.W.KFB.if_not (zhf hsz) ?_
 first | refine wpAny_bind (wpAny_pure ?_) | skip
 show wpAny _ _ (updateSeq l (fun xs => xs.extract 0 ((a : Int)).toNat ++ new ++ xs.extract (max (a : Int) (c : Int)).toNat xs.size) >>= _) _ _ s
 rw [hmax, Int.toNat_natCast]
 refine wpAny_bind (wpAny_updateSeq (hz := Nat.le_trans (Nat.le_add_right _ _) hsz) (_hz' := hz') e rfl ?_)
 refine wpAny_bind (wpAny_letGo ?_)
 first
  | exact wpAny_bind (wpAny_pure (wpAny_pure ⟨.none, rfl, wpAny_pure h⟩))
  | exact wpAny_pure ⟨.none, rfl, wpAny_pure h⟩
end
section
variable {X : Cx}
end
section
variable {κ : Type} [DecidableEq κ]
def valV (kvs : List (κ × V)) (k : κ) : Option V := (kvs.find? fun kv => decide (kv.1 = k)).map (·.2)
def putK (kvs : List (κ × V)) (k : κ) (v : V) : List (κ × V) :=
 if (kvs.any fun kv => decide (kv.1 = k)) = true then kvs.map (fun kv => if kv.1 = k then (kv.1, v) else kv) else kvs ++ [(k, v)]
theorem za3 {p : κ × V} {r : List (κ × V)} {k : κ} (e : p.1 = k) : valV (p :: r) k = some p.2 := by simp [valV, List.find?_cons, e]
theorem za4 {p : κ × V} {r : List (κ × V)} {k : κ} (e : ¬ p.1 = k) : valV (p :: r) k = valV r k := by simp [valV, List.find?_cons, e]
theorem zeA (k : κ) : ∀ kvs : List (κ × V), (kvs.any fun kv => decide (kv.1 = k)) = (valV kvs k).isSome
 | [] => rfl
 | p :: r => by
  rw [List.any_cons]
  by_cases e : p.1 = k
  · simp only [za3 e, decide_eq_true e, Bool.true_or, Option.isSome_some]
  · rw [za4 e, decide_eq_false e, Bool.false_or]; exact zeA k r
theorem zg4 (k j : κ) (y : V) : ∀ kvs : List (κ × V), valV (kvs.map fun kv => if kv.1 = k then (kv.1, y) else kv) j = (valV kvs j).map fun x => if j = k then y else x
 | [] => rfl
 | p :: r => by
  have ih := zg4 k j y r
  rw [List.map_cons]
  by_cases h : p.1 = k
  · rw [if_pos h]
    by_cases e : p.1 = j
    · rw [za3 (p := (p.1, y)) e, za3 e, Option.map_some, if_pos (e.symm.trans h)]
    · rw [za4 (p := (p.1, y)) e, za4 e, ih]
  · rw [if_neg h]
    by_cases e : p.1 = j
    · rw [za3 (p := p) e, za3 e, Option.map_some, if_neg (fun z => h (e.trans z))]
    · rw [za4 (p := p) e, za4 e, ih]
theorem zfi (k j : κ) (y : V) : ∀ kvs : List (κ × V), valV kvs k = none → valV (kvs ++ [(k, y)]) j = if j = k then some y else valV kvs j
 | [], _ => by
  by_cases e : k = j
  · rw [if_pos e.symm]; exact za3 (p := (k, y)) e
  · rw [if_neg (fun z => e z.symm)]; exact za4 (p := (k, y)) e
 | p :: r, hn => by
  rw [List.cons_append]
  have hk : ¬ p.1 = k := fun z => by rw [za3 z] at hn; cases hn
  rw [za4 hk] at hn
  have ih := zfi k j y r hn
  by_cases e : p.1 = j
  · rw [za3 e, za3 e, if_neg (fun z => hk (e.trans z))]
  · rw [za4 e, za4 e, ih]
theorem zjo (kvs : List (κ × V)) (k j : κ) (y : V) : valV (putK kvs k y) j = if j = k then some y else valV kvs j := by
 unfold putK
 by_cases a : (kvs.any fun kv => decide (kv.1 = k)) = true
 · rw [if_pos a, zg4]
   rw [zeA] at a
   by_cases e : j = k
   · obtain ⟨x, hx⟩ := Option.isSome_iff_exists.mp a
     rw [if_pos e, e, hx, Option.map_some, if_pos rfl]
   · rw [if_neg e]
     cases valV kvs j with
     | none => rfl
     | some x => rw [Option.map_some, if_neg e]
 · rw [if_neg a]
   refine zfi k j y kvs ?_
   rw [zeA] at a
   cases q : valV kvs k with
   | none => rfl
   | some x => rw [q] at a; exact (a rfl).elim
theorem zd3 (kvs : List (κ × V)) (k : κ) (v : V) : (putK kvs k v).length ≤ kvs.length + 1 := by
 unfold putK
 split
 · rw [List.length_map]; omega
 · rw [List.length_append, List.length_cons, List.length_nil]; omega
theorem RelO.isSome_eq {o : Option V} {u : Option Value} (r : RelO o u) : o.isSome = u.isSome := by
 cases o with
 | none => cases u with
  | none => rfl
  | some _ => exact (show False from r).elim
 | some _ => cases u with
  | none => exact (show False from r).elim
  | some _ => rfl
theorem RelO.getD {o : Option V} {u : Option Value} {d : V} {d' : Value} (r : RelO o u) (rd : RelV d d') : RelV (o.getD d) (u.getD d') := by
 cases o with
 | none => cases u with
  | none => exact rd
  | some _ => exact (show False from r).elim
 | some _ => cases u with
  | none => exact (show False from r).elim
  | some _ => exact r
theorem KV.val {kvs : List (κ × V)} {vs : List (κ × Value)} (r : KV kvs vs) (k : κ) : RelO (valV kvs k) (valueAt vs k) := by
 unfold KV at r
 induction r with
 | nil => exact True.intro
 | @cons p q ps qs h t ih =>
  obtain ⟨h1, h2⟩ := h
  by_cases e : p.1 = k
  · have e' : q.1 = k := h1.symm.trans e
    have b : valueAt (q :: qs) k = some q.2 := by simp [valueAt, List.find?_cons, e']
    rw [za3 e, b]; exact h2
  · have e' : ¬ q.1 = k := fun z => e (h1.trans z)
    have b : valueAt (q :: qs) k = valueAt qs k := by simp [valueAt, List.find?_cons, e']
    rw [za4 e, b]; exact ih
theorem KV.any {kvs : List (κ × V)} {vs : List (κ × Value)} (r : KV kvs vs) (k : κ) : (kvs.any fun kv => decide (kv.1 = k)) = vs.any fun kv => decide (kv.1 = k) := by
 unfold KV at r
 induction r with
 | nil => rfl
 | cons h t ih => rw [List.any_cons, List.any_cons, ih, h.1]
theorem KV.repl {kvs : List (κ × V)} {vs : List (κ × Value)} (r : KV kvs vs) (k : κ) {y : V} {u : Value} (ry : RelV y u) :
 KV (kvs.map fun kv => if kv.1 = k then (kv.1, y) else kv) (vs.map fun kv => if kv.1 = k then (kv.1, u) else kv) := by
 unfold KV at r ⊢
 induction r with
 | nil => exact .nil
 | @cons p q ps qs h t ih =>
  rw [List.map_cons, List.map_cons]
  refine .cons ?_ ih
  obtain ⟨h1, h2⟩ := h
  by_cases e : p.1 = k
  · rw [if_pos e, if_pos (h1.symm.trans e)]; exact ⟨h1, ry⟩
  · rw [if_neg e, if_neg (fun z => e (h1.trans z))]; exact ⟨h1, h2⟩
theorem KV.put {kvs : List (κ × V)} {vs : List (κ × Value)} (r : KV kvs vs) (k : κ) {y : V} {u : Value} (ry : RelV y u) : KV (putK kvs k y) (stored vs k u) := by
 unfold putK stored
 rw [r.any k]
 by_cases e : (vs.any fun kv => decide (kv.1 = k)) = true
 · rw [if_pos e, if_pos e]; exact r.repl k ry
 · rw [if_neg e, if_neg e]; exact Paired.snoc r ⟨rfl, ry⟩
theorem KV.length {kvs : List (κ × V)} {vs : List (κ × Value)} (r : KV kvs vs) : kvs.length = vs.length := Paired.length r
end
theorem ziT {P : Program} {w : World} {k : Key} {u : Value} (r : RelV (kV k) u) : (za1 P w).is k u = true := by
 cases k with
 | inl i => obtain ⟨t, e⟩ := (show ∃ t, u = Value.int i t from r); subst e; exact zgK P w i t
 | inr x => obtain ⟨t, e⟩ := (show ∃ t, u = Value.str x t from r); subst e; exact zgJ P w x t
theorem zfE {P : Program} {w : World} : ∀ {ks : List Key} {us : List Value}, Vals (ks.map kV) us → ItemsAre (za1 P w) ks us
 | [], _, r => by rw [List.map_nil] at r; cases r; exact .nil
 | k :: ks, _, r => by
  rw [List.map_cons] at r
  cases r with
  | cons h t => exact .cons (ziT h) (zfE t)
abbrev KT (H : Hp) : List (List Key × V) → List (List Key × Addr × Value) → Prop := Paired fun p q => p.1 = q.1 ∧ H q.2.1 = some (.tup (p.1.map kV)) ∧ RelV p.2 q.2.2
theorem KT.val {H : Hp} {kvs : List (List Key × V)} {xs : List (List Key × Addr × Value)} (r : KT H kvs xs) (k : List Key) : RelO (valV kvs k) ((atKey xs k).map (·.2)) := by
 induction r with
 | nil => exact True.intro
 | @cons p q ps qs h t ih =>
  obtain ⟨h1, _, h2⟩ := h
  by_cases e : p.1 = k
  · have e' : q.1 = k := h1.symm.trans e
    have b : atKey (q :: qs) k = some q.2 := by simp [atKey, List.find?_cons, e']
    rw [za3 e, b]; exact h2
  · have e' : ¬ q.1 = k := fun z => e (h1.trans z)
    have b : atKey (q :: qs) k = atKey qs k := by simp [atKey, List.find?_cons, e']
    rw [za4 e, b]; exact ih
section
variable {P : Program} {w : World} {H : Hp} {h : Heap} {a : Addr}
theorem zlm {u : HO} (ok : HOk P w H h) (e : Rd H a u) : ObjOk P w H h a u := e.ok ok
theorem zhT {kvs : List (Key × V)} (ok : HOk P w H h) (e : Rd H a (.dK kvs)) : kvs.length ≤ sizeLine ∧ (a == sysModules) = false ∧ ∃ vs, KV kvs vs ∧ h.DictOf (za1 P w) a vs :=
 show ObjOk P w H h a (.dK kvs) from zlm ok e
theorem zeh {kvs : List (Key × V)} (ok : HOk P w H h) (e : H a = some (.dK kvs)) : kvs.length ≤ sizeLine ∧ (a == sysModules) = false ∧ ∃ vs, KV kvs vs ∧ h.DictOf (za1 P w) a vs := zhT ok (.inl e)
theorem zhk {ks : List Key} (ok : HOk P w H h) (e : H a = some (.tup (ks.map kV))) : (tupleKind (za1 P w)).is h ks a := by
 obtain ⟨_, its, r, o, h1, h2, _, n, h3⟩ := (show ObjOk P w H h a (.tup (ks.map kV)) from ok a _ e)
 exact ⟨o, its.toArray, n, h1, h2, h3, by simpa using zfE r⟩
theorem zi7 {kvs : List (List Key × V)} (ok : HOk P w H h) (e : Rd H a (.dT kvs)) : kvs.length ≤ sizeLine ∧ (a == sysModules) = false ∧
 ∃ xs, KT H kvs xs ∧ h.DictOfH (tupleKind (za1 P w)) a xs := by
 obtain ⟨z, y, xs, r, o, es, ep, h1, h2, h3, h4, h5⟩ := (show ObjOk P w H h a (.dT kvs) from zlm ok e)
 refine ⟨z, y, xs, r, o, es, ep, h1, h2, h3, h4, fun x hx => ?_, h5⟩
 have all : ∀ {l : List (List Key × V)} {m : List (List Key × Addr × Value)}, KT H l m → ∀ x ∈ m, (tupleKind (za1 P w)).is h x.1 x.2.1 := by
  intro l m q
  induction q with
  | nil => intro x hx; exact nomatch hx
  | @cons p q ps qs hq t ih =>
   intro x hx
   rcases List.mem_cons.mp hx with e | hx
   · subst e
     exact zhk ok (by rw [← hq.1]; exact hq.2.1)
   · exact ih x hx
 exact all r x hx
end
def DGet (H : Hp) (a : Addr) (y : V) (r : Option V) : Prop :=
 (∃ kvs k, Rd H a (.dK kvs) ∧ y = kV k ∧ r = valV kvs k) ∨ ∃ kvs k b, Rd H a (.dT kvs) ∧ y = .ref b ∧ H b = some (.tup (k.map kV)) ∧ r = valV kvs k
theorem DGet.k {H : Hp} {a : Addr} {kvs : List (Key × V)} {k : Key} (e : H a = some (.dK kvs)) : DGet H a (kV k) (valV kvs k) := .inl ⟨kvs, k, .inl e, rfl, rfl⟩
section
variable {X : Cx} {pins : List (Addr × Obj)} {σ : St} {H : Hp} {s : Shared} {a : Addr} {y v : V} {u r : Value} {o : Option V} {A : Around} {E : Value → Shared → Prop}
theorem Inv.big (I : Inv X pins σ H s) : sysModules < s.heap.objs.size := by
 have h : mainGlobals < s.heap.objs.size := (I.mod.glob.keeps I.bk).lt
 exact Nat.lt_trans (by decide) h
theorem zjb {Q : Value → Shared → Prop} (hu : A.units + 1 < cLine) (I : Inv X pins σ H s) (g : DGet H a y (some v)) (ry : RelV y u) (h : ∀ w' s', Inv X pins σ H s' → RelV v w' → Q w' s') :
 wpAny (model X.prog X.w) A (getItem (.ref a) u) Q E s := by
 rcases g with ⟨kvs, k, e, ey, l⟩ | ⟨kvs, k, b, e, ey, eb, l⟩
 · subst ey
   obtain ⟨z, hd, vs, rel, dd⟩ := zhT I.hok e
   obtain ⟨w', hw, rw'⟩ := RelO.some_of (v := v) (o := valueAt vs k) (by rw [l]; exact rel.val k)
   exact wpAny_getItem_of (ziT ry) dd.mapOf hw (h w' _ (I.tok _) rw')
 · subst ey
   cases (show u = Value.ref b from ry)
   obtain ⟨z, hd, xs, rel, dd⟩ := zi7 I.hok e
   obtain ⟨w', hw, rw'⟩ := RelO.some_of (v := v) (o := (atKey xs k).map (·.2)) (by rw [l]; exact rel.val k)
   obtain ⟨p, hp, hp2⟩ := Option.map_eq_some_iff.mp hw
   refine wpAny_getItem_heap (tupleKind_room_in1 hu) (zhk I.hok eb) dd hp ?_
   rw [hp2]
   exact h w' _ (I.tok _) rw'
theorem zkX {Q : Value → Shared → Prop} (hu : A.units + 1 < cLine) (I : Inv X pins σ H s) (g : DGet H a y o) (ry : RelV y u) (h : ∀ s', Inv X pins σ H s' → Q (.bool (!o.isSome)) s') :
 wpAny (model X.prog X.w) A (compareOp .NotIn u (.ref a)) Q E s := by
 rcases g with ⟨kvs, k, e, ey, l⟩ | ⟨kvs, k, b, e, ey, eb, l⟩
 · subst ey
   obtain ⟨z, hd, vs, rel, dd⟩ := zhT I.hok e
   refine wpAny_notIn_of (ziT ry) hd dd.mapOf ?_
   rw [← (rel.val k).isSome_eq, ← l]
   exact h _ (I.tok _)
 · subst ey
   cases (show u = Value.ref b from ry)
   obtain ⟨z, hd, xs, rel, dd⟩ := zi7 I.hok e
   refine wpAny_notIn_heap (tupleKind_room_in1 hu) (zhk I.hok eb) hd dd ?_
   have q := (rel.val k).isSome_eq
   rw [Option.isSome_map] at q
   rw [← q, ← l]
   exact h _ (I.tok _)
theorem zkW {h' : Heap} {t' : Nat} {ob : HO} (I : Inv X pins σ H s) (mu : Mut (H a)) (hs : Heap.SameBut a s.heap h') (he : ∃ q, h'.get? a = some q) (new : ObjOk X.prog X.w (upd H a ob) h' a ob) :
 Inv X pins σ (upd H a ob) { s with heap := h', toks := t' } :=
 I.write (x := a) (e := a) mu (.inl rfl) (fun b q hb z => (hs.2 b hb).trans z) he new
theorem zlT {P : Program} {w : World} {H' : Hp} {h' : Heap} {kvs : List (Key × V)} {vs : List (Key × Value)} (z : kvs.length ≤ sizeLine) (hd : (a == sysModules) = false) (rel : KV kvs vs) (dd : h'.DictOf (za1 P w) a vs) :
 ObjOk P w H' h' a (.dK kvs) := ⟨z, hd, vs, rel, dd⟩
end
section
variable {X : Cx} {pins : List (Addr × Obj)} {σ : St} {H : Hp} {s : Shared} {a : Addr} {kvs : List (Key × V)} {k : Key} {u : Value} {A : Around} {E : Value → Shared → Prop}
end
def NoSl (i : Expr) : Prop := ∀ ov iv, subscripted i false ov iv = operate [ov, iv] (getItem ov iv)
theorem zkv {prog : Program} {w : World} {A : Around} {E : Value → Shared → Prop} {s : Shared} {env : Env} {value slice : Expr} {pos : Pos} {T id : String} {Q : Value → Shared → Prop}
 (hl : typeLookup (.type T) "__getitem__" = pure (some (.builtin id))) (hs : NoSl slice)
 (h : wpAny (model prog w) A (eval value env) (fun o s₁ => wpAny (model prog w) A (eval slice env) (fun i s₂ => s₂.TypeIs o T ∧ wpAny (model prog w) A (getItem o i) Q E s₂) E s₁) E s) :
 wpAny (model prog w) A (eval (.Subscript value slice pos) env) Q E s := by
 refine Subscript_ (wpAny_mono h (fun o s₁ h₁ => wpAny_mono h₁ (fun i s₂ h₂ => ?_) fun _ _ x => x) fun _ _ x => x)
 obtain ⟨hT, h₂⟩ := h₂
 unfold subscriptTail
 refine wpAny_bind ?_
 rw [getitemInPython_of_ne hT.not_modules]
 refine wpAny_bind (wpAny_specialOf hT hl ?_)
 have fin : wpAny (model prog w) A (subscripted slice false o i) (fun r s₃ => wpAny (model prog w) A (letTemporaryGo value o r >>= fun _ => pure r) Q E s₃) E s₂ := by
  rw [hs o i]
  exact wpAny_operating (wpAny_mono h₂ (fun r s₃ h₃ => wpAny_bind (wpAny_letTemporaryGo (wpAny_pure h₃))) fun _ _ x => x)
 first
  | exact wpAny_pure (wpAny_bind fin)
  | exact wpAny_bind (wpAny_pure (wpAny_bind fin))
  | exact wpAny_bind fin
theorem zgV {X : Cx} {pins : List (Addr × Obj)} {σ : St} {H : Hp} {s : Shared} {a : Addr} {y : V} {o : Option V} (I : Inv X pins σ H s) (g : DGet H a y o) : s.TypeIs (.ref a) "dict" := by
 rcases g with ⟨kvs, k, e, _, _⟩ | ⟨kvs, k, b, e, _, _, _⟩
 · obtain ⟨_, _, vs, _, dd⟩ := zhT I.hok e
   exact dd.typeIs
 · obtain ⟨_, _, xs, _, dd⟩ := zi7 I.hok e
   exact dd.typeIs
def zmg (td ty : TE) : TE := fun σ H Q => td σ H fun x H1 => ty σ H1 fun y H2 => ∃ a v, x = .ref a ∧ DGet H2 a y (some v) ∧ Q v H2
def zkr (ty td : TE) : TE := fun σ H Q => ty σ H fun y H1 => td σ H1 fun x H2 => ∃ a o, x = .ref a ∧ DGet H2 a y o ∧ Q (.bl (!o.isSome)) H2
section
variable {X : Cx} {o i e value : Expr} {pos pos' tpos : Pos} {td ty tv : TE}
theorem zkG (hu : X.A.units + 1 < cLine) (ho : PE X o td) (hi : PE X i ty) (hs : NoSl i) : PE X (.Subscript o i pos) (zmg td ty) := by
 intro pins s σ H Q I h
 refine zkv PySem.F.slot_dict_getitem.lookup hs (thn (ho pins s σ H _ I h) fun u s1 ⟨x, H1, I1, rx, q1⟩ => thn (hi pins s1 σ H1 _ I1 q1) fun iv s2 ⟨y, H2, I2, ry, a, v, ex, g, q2⟩ => ?_)
 subst ex
 obtain rfl : u = Value.ref a := rx
 exact ⟨zgV I2 g, zjb hu I2 g ry fun w' s3 I3 rw' => ⟨v, H2, I3, rw', q2⟩⟩
theorem ziw (hu : X.A.units + 1 < cLine) (hi : PE X i ty) (ho : PE X o td) : PC X .NotIn i o (zkr ty td) := by
 intro pins s σ H Q I h
 refine thn (hi pins s σ H _ I h) fun iv s1 ⟨y, H1, I1, ry, q1⟩ => thn (ho pins s1 σ H1 _ I1 q1) fun u s2 ⟨x, H2, I2, rx, a, ov, ex, g, q2⟩ => ?_
 subst ex
 obtain rfl : u = Value.ref a := rx
 exact zkX hu I2 g ry fun s3 I3 => ⟨.bl (!ov.isSome), H2, I3, rfl, q2⟩
end
theorem zjT {P : Program} {w : World} {H : Hp} (h : Heap) (hb : sysModules < h.objs.size) : ObjOk P w H (h.push { cls := .type "dict", data := .dict #[] }) h.objs.size (.dK []) :=
 ⟨Nat.zero_le _, beq_eq_false_iff_ne.mpr (Ne.symm (Nat.ne_of_lt hb)), [], .nil, Heap.DictOf.new h⟩
section
variable {X : Cx} {pos : Pos}
end
structure M2 (X : Cx) (o : Expr) (m : Str) (apos : Pos) (e f : Expr) (cpos : Pos) : Prop where
 base : attributeBase o m X.env (eval o X.env) = eval o X.env
 few : ((backTo cpos (starEach [e, f] X.env)).all (fun x => !x.1) && (backToKw cpos (keywordEach [] X.env)).all (fun x => x.1.isSome)
  && decide (([e, f] : List Expr).length + ([] : List Keyword).length + (if ([] : List Keyword).isEmpty then 0 else 1) < 30)) = true
 line : (apos.endLine == cpos.line) = true
 trees : backTo cpos (starEach [e, f] X.env) = [(false, eval e X.env), (false, eval f X.env)]
def IsD (H : Hp) (a : Addr) : Prop := (∃ kvs, Rd H a (.dK kvs)) ∨ ∃ kvs, Rd H a (.dT kvs)
theorem zlN {X : Cx} {pins : List (Addr × Obj)} {σ : St} {H : Hp} {s : Shared} {a : Addr} (I : Inv X pins σ H s) (d : IsD H a) :
 s.TypeIs (.ref a) "dict" ∧ (∀ b, Value.ref a = .ref b → ∃ ob, s.heap.get? b = some ob ∧ ob.dict = none) ∧ (a == sysModules) = false := by
 rcases d with ⟨kvs, e⟩ | ⟨kvs, e⟩
 · obtain ⟨_, hd, vs, _, dd⟩ := zhT I.hok e
   refine ⟨dd.typeIs, fun b q => ?_, hd⟩
   cases q
   obtain ⟨ob, _, _, h1, h2, _⟩ := dd
   exact ⟨ob, h1, h2.2.1⟩
 · obtain ⟨_, hd, xs, _, dd⟩ := zi7 I.hok e
   refine ⟨dd.typeIs, fun b q => ?_, hd⟩
   cases q
   obtain ⟨ob, _, _, h1, h2, _⟩ := dd
   exact ⟨ob, h1, h2.2.1⟩
section
variable {X : Cx} {pins : List (Addr × Obj)} {σ : St} {H : Hp} {s : Shared} {a : Addr} {y d : V} {u r : Value} {o : Option V} {A : Around} {E : Value → Shared → Prop}
theorem zlV {Q : Value → Shared → Prop} (hu : A.units + 1 < cLine) (I : Inv X pins σ H s) (g : DGet H a y o) (ry : RelV y u) (rd : RelV d r) (h : ∀ w' s', Inv X pins σ H s' → RelV (o.getD d) w' → Q w' s') :
 wpAny (model X.prog X.w) A (call (.builtin "dict.get") [.ref a, u, r]) Q E s := by
 rcases g with ⟨kvs, k, e, ey, l⟩ | ⟨kvs, k, b, e, ey, eb, l⟩
 · subst ey
   obtain ⟨z, hd, vs, rel, dd⟩ := zhT I.hok e
   refine call_meetsIn PySem.F.slot_dict_get dd.typeIs PySem.F.entry_dict_get (PySem.F.args_dict_get_3 _ _ _) (meets_dict_get_default (za1 X.prog X.w) a (ziT ry) hd r) ⟨_, dd.mapOf, h _ _ (I.tok _) ?_⟩
   rw [l]
   exact (rel.val k).getD rd
 · subst ey
   cases (show u = Value.ref b from ry)
   obtain ⟨z, hd, xs, rel, dd⟩ := zi7 I.hok e
   refine call_meetsIn PySem.F.slot_dict_get dd.typeIs PySem.F.entry_dict_get (PySem.F.args_dict_get_3 _ _ _) (meetsH_dict_get_default (tupleKind (za1 X.prog X.w)) a b hd r) ⟨tupleKind_room_in1 hu, k, xs, zhk I.hok eb, dd, h _ _ (I.tok _) ?_⟩
   rw [l]
   exact (rel.val k).getD rd
end
def zlg (td ty tx : TE) : TE := fun σ H Q => td σ H fun x H1 => ∃ a, x = .ref a ∧ IsD H1 a ∧ ty σ H1 fun y H2 => tx σ H2 fun z H3 => ∃ o, DGet H3 a y o ∧ Q (o.getD z) H3
section
variable {X : Cx} {o e f : Expr} {apos cpos : Pos} {td ty tx : TE}
theorem zjD (hu : X.A.units + 1 < cLine) (ho : PE X o td) (he : PE X e ty) (hf : PE X f tx) (m : M2 X o "get" apos e f cpos) : PE X (.Call (.Attribute o "get" apos) [e, f] [] cpos) (zlg td ty tx) := by
 intro pins s σ H Q I h
 refine wpAny_Call_method m.base m.few m.line PySem.F.plainAttrs_dict PySem.F.slot_dict_get PySem.F.type_dict_get (thn (ho pins s σ H _ I h) fun u s1 ⟨x, H1, I1, rx, a, ex, d, q1⟩ => ?_)
 subst ex
 obtain rfl : u = Value.ref a := rx
 obtain ⟨t1, t2, _⟩ := zlN I1 d
 refine ⟨t1, t2, ?_⟩
 rw [m.trees]
 refine Calls.callWith_builtin rfl (Calls.evalArgs_plain (Calls.spliced_cons (thn (he pins s1 σ H1 _ I1 q1) fun iv s2 ⟨y, H2, I2, ry, q2⟩ =>
  Calls.spliced_cons (thn (hf pins s2 σ H2 _ I2 q2) fun fv s3 ⟨z, H3, I3, rz, ov, g, q3⟩ => Calls.spliced_nil ?_))))
 exact zlV hu I3 g ry rz fun w' s4 I4 rw' => ⟨_, H3, I4, rw', q3⟩
end
section
variable {X : Cx} {pins : List (Addr × Obj)} {σ : St} {H : Hp} {s : Shared} {a : Addr} {kvs : List (Key × V)} {A : Around} {E : Value → Shared → Prop}
end
section
variable {X : Cx} {pins : List (Addr × Obj)} {σ : St} {H : Hp} {s : Shared} {a : Addr} {y : V} {u : Value} {A : Around} {E : Value → Shared → Prop}
end
end L2
namespace Att
open PySem PySem.W PySem.Calls PyProof.Rows
theorem zd7 {P : Params} {h : Heap} : ∀ (ns : List Int) (vs : List Value), WellAll P h vs (ns.map WData.int) → IntsAre vs ns := by
 intro ns
 induction ns with
 | nil =>
  intro vs w
  rw [List.map_nil] at w
  cases w
  exact .nil
 | cons n ns ih =>
  intro vs w
  rw [List.map_cons] at w
  cases w with
  | cons a b =>
   cases a
   exact .cons _ _ (ih _ b)
theorem zig {l : OpenLaw} {n : Nat} (hn : l.most = some n) {P : Params} {h : Heap} {args : List WData} {vals : List Value}
 (hpre : l.row.toRowW.claim.pre args = true) (hwl : WellAll P h vals args) :
 ∃ a vs ns, vals = [Value.ref a] ∧ args = [WData.list (ns.map WData.int)] ∧ h.get? a = some { cls := .type "list", data := .seq vs.toArray } ∧ IntsAre vs ns ∧ ns.length ≤ n := by
 have hsh : WShape.hasAll [] args [.list .int] = true := (pre_splitW hpre).1
 have hc : l.pre.holds [] { args := args } = true := (pre_splitW hpre).2
 obtain ⟨d, r, rfl, h1, h2⟩ := hasAllW_cons hsh
 obtain rfl := hasAllW_nil h2
 obtain ⟨xs, rfl, h3⟩ := hasW_list h1
 obtain ⟨ns, rfl⟩ := items_int h3
 have hlen : ns.length ≤ n := by
  unfold OpenLaw.pre at hc
  have h4 : (WTm.not (.lt (.lit (.int (n : Int))) (.len (.arg 0)))).holds [] { args := [.list (ns.map .int)] } = true := by
   have h4 := (holds_andW hc).1
   rw [hn] at h4
   exact h4
  have h5 := condW_of h4 (w_not (w_lt w_lit (w_len_list (w_arg rfl))))
  rw [List.length_map] at h5
  refine Nat.le_of_not_lt fun q => ?_
  have q' : (n : Int) < ((ns.length : Nat) : Int) := by omega
  first
   | (rw [decide_eq_true q'] at h5; exact absurd h5 (by decide))
   | (simp at h5; omega)
 cases hwl with
 | cons w1 w2 =>
  cases w2
  cases w1 with
  | list ho hall => exact ⟨_, _, ns, rfl, rfl, ho, zd7 ns _ hall, hlen⟩
theorem zio (l : OpenLaw) (args : List WData) : l.row.toRowW.claim.post args (.bool true) args = true :=
 postW_of (r := l.row.toRowW) (X := (true == true))
  (show WShape.has [] (.bool true) .bool = true by first | rfl | decide | simp [WShape.has, WShape.arms, WShape.armsAll])
  (show (WTm.eq .res (.lit (.bool true))).value [] { args := args, res := some (.bool true), after := args } = some (.bool (true == true)) from w_eq_bool (w_res rfl) w_lit) rfl
theorem attach_call {l : OpenLaw} {n : Nat} {q : Program} {loose : List Str} {XP : (Str → Option Value) → Heap → Prop} {YP : World → Heap → Prop} {d : DefRec}
 (hn : l.most = some n) (hdf : d.params.defaults = [])
 (call : ∀ (w : World) (s₀ s₁ : Shared) (mg mb : Str → Option Value) (fa : Addr) (o : Obj) (pm cd doc : Value) (a : Addr) (vs : List Value) (ns : List Int),
  Ground q loose [] XP w s₀ mg mb s₁.heap → YP w s₁.heap →
  s₁.heap.get? fa = some o → o.data = .func (docDef d.name d.params d.body d.scope pm cd doc) → s₁.heap.CodeRec cd d.name → mg d.name = some (.ref fa) →
  s₁.heap.get? a = some { cls := .type "list", data := .seq vs.toArray } → IntsAre vs ns → ns.length ≤ n → s₁.gens = #[] →
  codeAny (model l.prog w) callerA (.call (.ref fa) ⟨[.ref a], []⟩) (fun r s' => r = .ok (.ret (.bool true)) ∧ OldK s₁.heap s'.heap ∧ s'.os = s₁.os ∧ AllBare s'.gens) s₁) :
 WalkO q loose XP YP l.row.toRowW d [] (fun f vs => PySem.call f vs) := by
 intro w s₀ s₁ mg mb G Y fa o pm cd doc dV kV ho hd hcd hD hmg hg args vals as hpre hlay hrd hwl hlo
 obtain rfl : dV = .none := Dflts.none hD hdf
 obtain rfl : kV = .none := Dflts.noKw hD
 obtain ⟨a, vs, ns, rfl, rfl, hobj, hints, hlen⟩ := zig hn hpre hwl
 refine enter_call (codeAny_mono (call w s₀ s₁ mg mb fa o pm cd doc a vs ns G Y ho (fd_plain hd) hcd hmg hobj hints hlen hg) fun r s' hq => ?_)
 obtain ⟨rfl, h2, h3, h4⟩ := hq
 exact ⟨.inl ⟨.bool true, .bool true, [], rfl, fun _ => rfl, .bool true, zio l _, fun _ => ⟨List.Pairwise.nil, fun _ hm => (nomatch hm)⟩⟩, h2, h3, h4⟩
section
variable {prog : Program} {w : World} {A : Around} {E : Value → Shared → Prop} {s : Shared} {K : Frag}
end
end Att
namespace L2
open PySem PySem.Spec PyProof.Rows
theorem zfh : ∀ {vs : List Value} {ns : List Int}, IntsAre vs ns → Vals (ns.map V.int) vs
 | _, _, .nil => .nil
 | _, _, .cons n t h => .cons ⟨t, rfl⟩ (zfh h)
def Only (H : Hp) : Prop := ∀ b, H b = none ∨ ∃ o xs, H b = some (.frz o (.lst xs))
theorem zjK {P : Program} {w : World} {K : PySem.W.Frag} {mg mb : Str → Option Value} {CX : CXT} {k : Nat} {fa a : Addr} {fd : FuncData} {x : Str} {sp : Sp} {s₁ : Shared} {vs : List Value} {ns : List Int}
 (KX : K.In s₁.heap) (hns : s₁.heap.Ns mainGlobals mg) (hb : s₁.heap.Ns builtinsNs mb) (hbb : ∀ x : Str, x ≠ "__name__" → mb x = bootBuiltins x) (hlim : s₁.heap.NoLimit) (hg : s₁.gens = #[])
 (ha : s₁.heap.get? a = some { cls := .type "list", data := .seq vs.toArray }) (hi : IntsAre vs ns) (hl : ns.length ≤ sizeLine) (hr : Room k callerA)
 (F : ∀ base : Heap, K.In base → base.Ns mainGlobals mg → FnOk P w K mg base CX k fa fd [x] sp) (hbind : ∀ (s : Shared) (u : Value), BindsTo s fd ⟨[u], []⟩ [(x, u)])
 (hsp : ∀ H : Hp, Only H → SqL K H a (ns.map V.int) → sp [.ref a] H (fun v _ => v = .bl true) fun _ _ _ => False)
 (hCX : ∀ H e s', CX [] H s₁ (fun _ _ _ => False) e s' → False) :
 codeAny (model P w) callerA (.call (.ref fa) ⟨[.ref a], []⟩) (fun r s' => r = .ok (.ret (.bool true)) ∧ OldK s₁.heap s'.heap ∧ s'.os = s₁.os ∧ AllBare s'.gens) s₁ := by
 have rv := zfh hi
 have lenV := hi.length
 have core : ∀ H : Hp, Only H → SqL K H a (ns.map V.int) → HOk P w H s₁.heap → (∀ b, H b ≠ none → b = a) → (H a ≠ none → K.lookup a = none) →
  codeAny (model P w) callerA (.call (.ref fa) ⟨[.ref a], []⟩) (fun r s' => r = .ok (.ret (.bool true)) ∧ OldK s₁.heap s'.heap ∧ s'.os = s₁.os ∧ AllBare s'.gens) s₁ := by
  intro H hO hS hok hA hK
  have base_of : ∀ {b : Addr} {o : Obj}, s₁.heap.get? b = some o → H b = none → (hidT s₁.heap H).get? b = some o := fun e n => zjM e n
  have noA : ∀ {b : Addr} {o : Obj} {es : Array DictEntry} {ep : Nat}, s₁.heap.get? b = some o → o.data = .dict es ep → H b = none := fun {b o es ep} e d => by
   cases q : H b with
   | none => rfl
   | some u =>
    have e' : b = a := hA b (by rw [q]; simp)
    subst e'
    rw [ha] at e; cases e
    have d' : Data.seq vs.toArray _ = Data.dict es ep := d
    cases d'
  have nsK : ∀ {b : Addr} {m : Str → Option Value}, s₁.heap.Ns b m → (hidT s₁.heap H).Ns b m := fun {b m} ⟨o, es, ep, e, d, r⟩ => ⟨o, es, ep, base_of e (noA e d), d, r⟩
  have hKb : K.In (hidT s₁.heap H) := fun b o e => base_of (KX b o e) (by
   cases q : H b with
   | none => rfl
   | some u =>
    have e' : b = a := hA b (by rw [q]; simp)
    subst e'
    rw [hK (by rw [q]; simp)] at e; cases e)
  have hM : Mod K mg (hidT s₁.heap H) := ⟨hKb, nsK hns, ⟨mb, nsK hb, hbb⟩, let ⟨mc, h1, h2⟩ := hlim; ⟨mc, nsK h1, h2⟩⟩
  have e0 : Env0 P w K mg (hidT s₁.heap H) callerA [] s₁ H := ⟨rfl, hM, fun b o e => zkK e, Nat.le_of_eq (zi4 _ _), trivial, fun b hb => absurd (show b ∈ ([] : List Addr) from hb) (by simp), hok, .of_eq hg⟩
  refine codeAny_mono ((F _ hKb (nsK hns)).run callerA [] s₁ H ⟨[.ref a], []⟩ [.ref a] [.ref a] _ _ hr e0 (hbind s₁ (.ref a)) (.cons rfl .nil) (hsp H hO hS)) fun r s' h => ?_
  cases r with
  | error e => exact (hCX H e s' h).elim
  | ok fl =>
   cases fl with
   | next => exact False.elim h
   | brk => exact False.elim h
   | cont => exact False.elim h
   | ret u =>
    obtain ⟨v, H', os, bare, un, hok', r', q⟩ := h
    have q' : v = .bl true := q
    subst q'
    obtain rfl : u = Value.bool true := r'
    refine ⟨rfl, OldK.of_keep fun b o e => ?_, os, bare⟩
    cases q : H b with
    | none => exact un.keep b o e q (by intro z; exact absurd (show b ∈ ([] : List Addr) from z) (by simp)) (by simp)
    | some u =>
     rcases hO b with z | ⟨ob, xs, z⟩
     · rw [q] at z; cases z
     · have z2 := un.frzs b ob _ z
       obtain ⟨e1, _⟩ := hok b _ z
       obtain ⟨e2, _⟩ := hok' b _ z2
       rw [e] at e1; cases e1
       exact e2
 cases hk : K.lookup a with
 | some o =>
  have e := KX a o hk
  rw [ha] at e
  cases e
  refine core (fun _ => none) (fun _ => .inl rfl) (.inr ⟨_, vs.toArray, _, hk, rfl, rfl, rfl, by rw [List.size_toArray, lenV]; exact hl, by simpa using rv⟩) (fun b u z => by have z' : (none : Option HO) = some u := z; cases z') (fun b z => absurd rfl z) fun z => absurd rfl z
 | none =>
  refine core (fun b => if b = a then some (.frz { cls := .type "list", data := .seq vs.toArray } (.lst (ns.map V.int))) else none) (fun b => ?_) (.inl (.inr ⟨{ cls := .type "list", data := .seq vs.toArray }, if_pos rfl⟩)) (fun b u z => ?_) (fun b z => ?_) fun _ => hk
  · by_cases hb : b = a
    · exact .inr ⟨_, _, if_pos hb⟩
    · exact .inl (if_neg hb)
  · by_cases hb : b = a
    · have z' := (if_pos hb).symm.trans z
      cases z'
      subst hb
      exact ⟨ha, by rw [List.length_map]; exact hl, vs, _, rv, ha⟩
    · have z' := (if_neg hb).symm.trans z
      cases z'
  · by_cases hb : b = a
    · exact hb
    · exact absurd (if_neg hb) z
abbrev KOf {K : PySem.W.Frag} {h : Heap} (_ : K.In h) : PySem.W.Frag := K
theorem walk_of {l : PySem.W.OpenLaw} {n k : Nat} {q : Program} {loose : List Str} {XP : (Str → Option Value) → Heap → Prop} {YP : World → Heap → Prop} {d : DefRec} {K : Params → PySem.W.Frag} {CX : World → CXT} {sp : World → Sp} {x : Str}
 (hn : l.most = some n) (hn2 : n ≤ sizeLine) (hdf : d.params.defaults = []) (hr : Room k callerA)
 (hY : ∀ (w : World) (h : Heap), YP w h → (K w.params).In h)
 (F : ∀ (w : World) (mg : Str → Option Value) (fa : Addr) (h : Heap), (K w.params).In h → h.Ns mainGlobals mg → mg d.name = some (.ref fa) →
  ∃ fd : FuncData, (∀ (s : Shared) (u : Value), BindsTo s fd ⟨[u], []⟩ [(x, u)]) ∧
   ∀ base : Heap, (K w.params).In base → base.Ns mainGlobals mg → FnOk l.prog w (K w.params) mg base (CX w) k fa fd [x] (sp w))
 (hsp : ∀ (w : World) (H : Hp) (a : Addr) (ns : List Int), ns.length ≤ n → Only H → SqL (K w.params) H a (ns.map V.int) → sp w [.ref a] H (fun v _ => v = .bl true) fun _ _ _ => False)
 (hCX : ∀ (w : World) (H : Hp) (s : Shared) (e : Value) (s' : Shared), CX w [] H s (fun _ _ _ => False) e s' → False) :
 PySem.W.WalkO q loose XP YP l.row.toRowW d [] (fun f vs => PySem.call f vs) := by
 refine Att.attach_call hn hdf fun w s₀ s₁ mg mb fa o pm cd doc a vs ns G Y ho hd hcd hmg hobj hints hlen hg => ?_
 have KX := hY w _ Y
 obtain ⟨fd, hb, hF⟩ := F w mg fa _ KX G.T.g hmg
 exact zjK KX G.T.g G.T.b G.T.builtins G.T.nolimit hg hobj hints (Nat.le_trans hlen hn2) hr hF hb (fun H hO hS => hsp w H a ns hlen hO hS) fun H e s' => hCX w H s₁ e s'
def zbT (s : Stmt) : Arguments := match s with
 | .FunctionDef _ a _ _ _ _ _ _ _ _ => a
 | _ => { posonlyargs := [], args := [], vararg := none, kwonlyargs := [], kw_defaults := [], kwarg := none, defaults := [] }
def zbv (s : Stmt) : List Stmt := match s with
 | .FunctionDef _ _ b _ _ _ _ _ _ _ => b
 | _ => []
def zag (s : Stmt) : Scope := match s with
 | .FunctionDef _ _ _ _ _ _ sc _ _ _ => sc
 | _ => { kind := .function, names := [], isGenerator := false, isCoroutine := false }
abbrev CX0 : CXT := fun _ _ _ _ _ _ => False
abbrev E0 : XK := fun _ _ _ => False
theorem zmm {X : Cx} : zhp CX0 X E0 := fun _ _ _ _ _ _ _ h => h.elim
structure Fun (K : PySem.W.Frag) (x qual : Str) (st : Stmt) (f : Addr) (fd : FuncData) : Prop where
 ex : ∃ (oc : Value) (od : Option Addr) (kV doc pm : Value) (an : Option Addr) (cdv ct : Value) (osl : Array (Option Value)),
  fd = PySem.W.fnOf x qual (zbT st) (zbv st) (zag st) .none kV doc pm an cdv ct ∧ K.lookup f = some ⟨oc, od, .func fd, osl⟩ ∧ PySem.W.codeIn K cdv qual = true
 kp : PySem.W.keepIn K (.ref f) = true
section
variable {P : Program} {w : World} {K : PySem.W.Frag} {mg : Str → Option Value} {base : Heap}
theorem Fun.ok {x qual : Str} {st : Stmt} {f : Addr} {fd : FuncData} {N ps : List Str} {k : Nat} {sp : Sp} (F : Fun K x qual st f fd) (S : FnScope N ps (zag st)) (len : ∀ vs H Q E, sp vs H Q E → vs.length = ps.length)
 (hbody : ∀ (cdv : Value) (A : Around) (outer : List Env) (s : Shared) (H : Hp) (vs : List V) (Q : VK) (E : XK), Room k (A.deeper (envOfC qual (zag st) s.heap.objs.size f cdv)) → sp vs H Q E →
  ∃ t, PSs (cxOf CX0 P w K mg base N qual (zag st) f cdv A outer s H E).nox (zbv st) t ∧ t { nx := fun _ H' => Q .non H', rt := Q } (zeE N vs) H) : FnOk P w K mg base CX0 (k + 1) f fd ps sp := by
 obtain ⟨oc, od, kV, doc, pm, an, cdv, ct, osl, rfl, lk, hcd⟩ := F.ex
 refine zlR lk hcd S len fun A outer s H vs Q E hr hsp => ?_
 obtain ⟨t, h, q⟩ := hbody cdv A outer s H vs Q E hr hsp
 exact ⟨t, h.nox, q⟩
theorem Fun.binds {x qual : Str} {st : Stmt} {f : Addr} {fd : FuncData} {ps : List Str} (F : Fun K x qual st f fd)
 (h : ∀ (kV doc pm : Value) (an : Option Addr) (cdv ct : Value) (us : List Value), us.length = ps.length → bindArgs (PySem.W.fnOf x qual (zbT st) (zbv st) (zag st) .none kV doc pm an cdv ct) ⟨us, []⟩ = pure (ps.zip us)) : Binds K fd ps [] := by
 obtain ⟨oc, od, kV, doc, pm, an, cdv, ct, osl, rfl, lk, hcd⟩ := F.ex
 exact .all (h kV doc pm an cdv ct)
theorem zat {x qual : Str} {st : Stmt} {f : Addr} {oc : Value} {od an : Option Addr} {osl : Array (Option Value)} {kV doc pm cdv ct : Value} (l : K.lookup f = some ⟨oc, od, .func (PySem.W.fnOf x qual (zbT st) (zbv st) (zag st) .none kV doc pm an cdv ct), osl⟩)
 (c : PySem.W.codeIn K cdv qual = true) (k : PySem.W.keepIn K (.ref f) = true) : Fun K x qual st f (PySem.W.fnOf x qual (zbT st) (zbv st) (zag st) .none kV doc pm an cdv ct) := ⟨⟨oc, od, kV, doc, pm, an, cdv, ct, osl, rfl, l, c⟩, k⟩
end
theorem zkQ {A : Around} {k : Nat} (hr : Room k A) : A.units + 1 < cLine := Nat.lt_of_le_of_lt (Nat.add_le_add_left (by decide : 1 ≤ 64) _) hr.units
theorem zap {n : Nat} (h : n ≤ 1000) : n < sizeLine := Nat.lt_of_le_of_lt h (by decide)
section
variable {X : Cx}
theorem pv (i : Nat) {x : Str} {pos : Pos} (hN : X.N[i]? = some x := by rfl) (hv : Vis X.env.scope x := by first | exact Or.inl rfl | exact Or.inr (Or.inl rfl) | exact Or.inr (Or.inr rfl)) (hd : (x == ("__debug__" : Str)) = false := by decide)
 (hcd : (x == ("__classdict__" : Str)) = false := by decide) : PE X (.Name x pos) (tVar i) := zlr hN hv hd hcd
end
theorem iteF {A B : Prop} (h : B) : if false = true then A else B := by
 rw [if_neg Bool.false_ne_true]
 exact h
theorem iteT {A B : Prop} (h : A) : if true = true then A else B := by
 rw [if_pos rfl]
 exact h
theorem ite2 {c A B : Prop} [Decidable c] (h1 : c → A) (h2 : ¬ c → B) : if c then A else B := by
 by_cases h : c
 · rw [if_pos h]
   exact h1 h
 · rw [if_neg h]
   exact h2 h
def Same (H H' : Hp) : Prop := ∀ b o, H b = some o → H' b = some o
theorem Same.refl (H : Hp) : Same H H := fun _ _ h => h
theorem Same.trans {H H1 H2 : Hp} (a : Same H H1) (b : Same H1 H2) : Same H H2 := fun c o h => b c o (a c o h)
theorem Same.free {H H' : Hp} (e : Same H H') {l : Addr} (h : H' l = Option.none) : H l = Option.none := by
 cases q : H l with
 | none => rfl
 | some o =>
  rw [e l o q] at h
  cases h
theorem Same.seq {K : PySem.W.Frag} {H H' : Hp} {a : Addr} {xs : List V} (e : Same H H') (h : SqL K H a xs) : SqL K H' a xs := by
 rcases h with (h | ⟨o, h⟩) | h
 · exact .inl (.inl (e _ _ h))
 · exact .inl (.inr ⟨o, e _ _ h⟩)
 · exact .inr h
section
variable {X : Cx}
end
section
variable {κ : Type} [DecidableEq κ]
end
def lcx (X : Cx) (N' : List Str) (scope : Scope) (cl : List (Str × Addr)) (C : Addr) (s₀ : Shared) (H₀ : Hp) (ex : List Addr) : Cx :=
 { prog := X.prog, w := X.w, K := X.K, mg := X.mg, base := X.base, A := X.A, N := N', s₀ := s₀, H₀ := H₀, env := compEnvC scope cl C X.env, outer := X.stack, stack := X.stack, ex := ex, fn := fun _ => false, calm := X.calm, pn := [], xe := fun _ _ => False }
abbrev Cap := List (Option Nat)
def inn (js : Cap) (σ : St) : St := js.map fun o => o.bind fun j => (σ[j]?).join
theorem zkY {env : Env} (has : ∀ x, (env.kindOf x = some .cell ∨ env.kindOf x = some .free) → ∃ c, env.cells.lookup x = some c) :
 ∀ (names : List (Str × NameKind)) (acc : List (Str × Addr)), (∀ p ∈ names, p.2 = .free → env.kindOf p.1 = some .cell ∨ env.kindOf p.1 = some .free) → (∀ x c, acc.lookup x = some c → env.cells.lookup x = some c) →
  ∃ cl, (forIn names acc (fun (p : Str × NameKind) (cs : List (Str × Addr)) => (do
   if p.2 == NameKind.free then
    let c ← cellOf env p.1
    pure (ForInStep.yield ((p.1, c) :: cs))
   else pure (ForInStep.yield cs) : Sem (ForInStep (List (Str × Addr)))))) = pure cl ∧ (∀ x c, cl.lookup x = some c → env.cells.lookup x = some c) ∧
   (∀ x, (acc.lookup x).isSome = true → (cl.lookup x).isSome = true) ∧ ∀ p ∈ names, p.2 = .free → (cl.lookup p.1).isSome = true := by
 intro names
 induction names with
 | nil => intro acc _ ha; exact ⟨acc, rfl, ha, fun _ h => h, fun _ h => nomatch h⟩
 | cons p r ih =>
  intro acc hn ha
  obtain ⟨n, k⟩ := p
  rw [List.forIn_cons]
  by_cases hk : k = .free
  · subst hk
    obtain ⟨c, hc⟩ := has n (hn (n, .free) List.mem_cons_self rfl)
    have e : cellOf env n = (pure c : Sem Addr) := by
     unfold cellOf
     rw [hc]
    obtain ⟨cl, h1, h2, h3, h4⟩ := ih ((n, c) :: acc) (fun q hq => hn q (List.mem_cons_of_mem _ hq)) (fun x c' hx => by
     rw [List.lookup_cons] at hx
     cases hb : x == n with
     | true =>
      rw [hb] at hx
      cases hx
      rw [show x = n from eq_of_beq hb]
      exact hc
     | false =>
      rw [hb] at hx
      exact ha x c' hx)
    refine ⟨cl, ?_, h2, fun x hx => h3 x ?_, fun q hq hf => ?_⟩
    · simp only [beq_self_eq_true, if_true, e]
      exact h1
    · rw [List.lookup_cons]
      cases hb : x == n with
      | true => rfl
      | false => exact hx
    · rcases List.mem_cons.mp hq with rfl | hq
      · exact h3 _ (by simp [List.lookup_cons])
      · exact h4 q hq hf
  · have hb : (k == NameKind.free) = false := by simpa using hk
    obtain ⟨cl, h1, h2, h3, h4⟩ := ih acc (fun q hq => hn q (List.mem_cons_of_mem _ hq)) ha
    refine ⟨cl, ?_, h2, h3, fun q hq hf => ?_⟩
    · simp only [hb, Bool.false_eq_true, if_false]
      exact h1
    · rcases List.mem_cons.mp hq with rfl | hq
      · exact absurd hf hk
      · exact h4 q hq hf
theorem ze9 {env : Env} {scope : Scope} (has : ∀ x, (env.kindOf x = some .cell ∨ env.kindOf x = some .free) → ∃ c, env.cells.lookup x = some c)
 (hn : ∀ p ∈ scope.names, p.2 = .free → env.kindOf p.1 = some .cell ∨ env.kindOf p.1 = some .free) :
 ∃ cl, closureFor scope env = pure cl ∧ (∀ x c, cl.lookup x = some c → env.cells.lookup x = some c) ∧ ∀ p ∈ scope.names, p.2 = .free → (cl.lookup p.1).isSome = true := by
 obtain ⟨cl, h1, h2, _, h4⟩ := zkY has scope.names [] hn (fun _ _ h => nomatch h)
 refine ⟨cl, ?_, h2, h4⟩
 unfold closureFor
 show (do let cs ← forIn scope.names [] _; pure cs) = _
 refine Eq.trans ?_ h1
 simp only [bind_pure]
section
variable {prog : Program} {w : World} {A : Around} {E : Value → Shared → Prop} {R : Result → Shared → Prop} {s : Shared}
theorem zgW {elt target iter : Expr} {ifs : List Expr} {scope : Scope} {pos : Pos} {it acc : Value} {env : Env} (I : Nat → Shared → Prop)
 (turn : ∀ n s, I n s → wpAny (model prog w) A (pyNext it) (fun r s₁ => match r with
  | none => R (.ok .next) s₁
  | some v => wpAny (model prog w) A (letOwnedTupleGo target it v) (fun _ s₁' => wpAny (model prog w) A (assign target env v) (fun _ s₂ =>
   wpAny (model prog w) A (forIn ifs true fun c r => if r = true then do let ok ← isTrue c env (eval c env); pure (ForInStep.yield ok) else pure (ForInStep.yield r)) (fun ok s₃ =>
    if ok = true then wpAny (model prog w) A (eval elt env) (fun x s₄ =>
     wpAny (model prog w) A (call (.builtin "list.append") [acc, x]) (fun _ s₅ => ∃ m, m < n ∧ I m s₅) (fun _ _ => False) s₄) (fun _ _ => False) s₃
    else ∃ m, m < n ∧ I m s₃) (fun _ _ => False) s₂) (fun _ _ => False) s₁') (fun _ _ => False) s₁) (fun _ _ => False) s)
 (n : Nat) (h : I n s) :
 codeAny (model prog w) A (.compLoop (.ListComp elt [⟨target, iter, ifs, 0⟩] scope pos) 0 it acc env) R s := by
 refine codeAny_loop rfl I (fun n s hI => ?_) n h
 show wpAny _ A ((compTurn (.ListComp elt [⟨target, iter, ifs, 0⟩] scope pos) 0 it acc env).onRaise (fun x => do noteFrame x env; theTreesLotGoes x)) _ _ s
 refine wpAny_noted ?_
 rw [compTurn_list]
 refine wpAny_bind (wpAny_standAt (wpAny_bind (wpAny_mono (turn n s hI) (fun r s₁ h₁ => ?_) fun _ _ h' => h'.elim)))
 cases r with
 | none => exact wpAny_pure h₁
 | some v =>
  refine wpAny_bind (wpAny_mono h₁ (fun _ s₁' h₁' => ?_) fun _ _ h' => h'.elim)
  refine wpAny_bind (wpAny_mono h₁' (fun _ s₂ h₂ => wpAny_bind (wpAny_mono h₂ (fun ok s₃ h₃ => ?_) fun _ _ h' => h'.elim)) fun _ _ h' => h'.elim)
  cases ok with
  | false => exact wpAny_pure ⟨rfl, h₃⟩
  | true =>
   exact wpAny_bind (wpAny_bind (wpAny_mono h₃ (fun x s₄ h₄ => wpAny_bind (wpAny_mono h₄ (fun _ s₅ h₅ => wpAny_pure (wpAny_pure ⟨rfl, h₅⟩)) fun _ _ h' => h'.elim)) fun _ _ h' => h'.elim))
end
def PIfs (X : Cx) (ifs : List Expr) (t : TT) : Prop :=
 ∀ (pins : List (Addr × Obj)) (s : Shared) (σ : St) (H : Hp) (Q : Bool → Hp → Prop), Inv X pins σ H s → t σ H Q →
  wpAny (model X.prog X.w) X.A (forIn ifs true fun c r => if r = true then do let ok ← isTrue c X.env (eval c X.env); pure (ForInStep.yield ok) else pure (ForInStep.yield r)) (TP X pins σ Q) X.xe s
def tYes : TT := fun _ H Q => Q true H
theorem zaJ {X : Cx} : PIfs X [] tYes := fun _ _ _ H _ I h => wpAny_tests_nil ⟨H, I, h⟩
theorem zcU {X : Cx} {c : Expr} {t : TT} (h : PT X c t) : PIfs X [c] t := fun pins s σ H Q I hw => wpAny_tests_one (h pins s σ H Q I hw)
def zcn (J : It) (p : Addr) (js : Cap) (g : TG) (tc : TT) (te : TE) (σ : St) (H : Hp) (Q : VK) : Prop :=
 ∃ W : Nat → Nat → St → List V → Hp → Prop, (∃ m, W 0 m (inn js σ) [] (upd H p (.lst []))) ∧ ∀ i m σ' ys H, W i m σ' ys H → H p = some (.lst ys) ∧
  ((J.stop i H ∧ Q (.ref p) H) ∨ (J.go i H ∧ ys.length < sizeLine ∧ ∀ x H', J.yld i H x H' → g x σ' H' fun σ2 H2 => tc σ2 H2 fun b H3 =>
    if b = true then te σ2 H3 fun y H4 => H4 p = some (.lst ys) ∧ ∃ m', m' < m ∧ W (i + 1) m' σ2 (ys ++ [y]) (upd H4 p (.lst (ys ++ [y])))
    else ∃ m', m' < m ∧ W (i + 1) m' σ2 ys H3))
def tLC (wi : TI) (js : Cap) (g : TG) (tc : TT) (te : TE) : TE := fun σ H Q => wi σ H fun J H1 => ∀ p, H1 p = none → zcn J p js g tc te σ H1 Q
structure CapOk (X : Cx) (N' : List Str) (js : Cap) (scope : Scope) : Prop where
 len : js.length = N'.length
 kind : scope.kind = .function
 ncell : ∀ p ∈ scope.names, p.2 ≠ .cell
 names : ∀ p ∈ scope.names, p.2 = .local → scope.names.lookup p.1 = some .local
 free : ∀ p ∈ scope.names, p.2 = .free → X.env.kindOf p.1 = some .cell ∨ X.env.kindOf p.1 = some .free
 cap : ∀ (i j : Nat), js[i]? = some (some j) → ∃ x, N'[i]? = some x ∧ X.N[j]? = some x ∧ scope.names.lookup x = some .free
theorem zcC {names : List (Str × NameKind)} {x : Str} {k : NameKind} (h : names.lookup x = some k) : (x, k) ∈ names := by
 induction names with
 | nil => cases h
 | cons p r ih =>
  obtain ⟨n, k'⟩ := p
  rw [List.lookup_cons] at h
  cases hb : x == n with
  | true =>
   rw [hb] at h
   cases h
   rw [show x = n from eq_of_beq hb]
   exact List.mem_cons_self
  | false =>
   rw [hb] at h
   exact List.mem_cons_of_mem _ (ih h)
theorem zdj {scope : Scope} {env : Env} {x : Str} {k : NameKind} (h : (relabel scope env).names.lookup x = some k) : ∃ k0, scope.names.lookup x = some k0 ∧ (k = k0 ∨ (k0 = .free ∧ k = .cell)) := by
 have go : ∀ (names : List (Str × NameKind)), (names.map fun (p : Str × NameKind) => if (p.2 == NameKind.free && env.scope.kind == .function && env.kindOf p.1 == some .cell) then (p.1, NameKind.cell) else (p.1, p.2)).lookup x = some k →
  ∃ k0, names.lookup x = some k0 ∧ (k = k0 ∨ (k0 = .free ∧ k = .cell)) := by
  intro names
  induction names with
  | nil => intro h; cases h
  | cons p r ih =>
   obtain ⟨n, k'⟩ := p
   intro h
   rw [List.map_cons] at h
   by_cases hc : (k' == NameKind.free && env.scope.kind == .function && env.kindOf n == some .cell) = true
   · rw [if_pos hc] at h
     rw [List.lookup_cons] at h ⊢
     cases hb : x == n with
     | true =>
      rw [hb] at h
      cases h
      have : k' = .free := by
       cases k' <;> first | rfl | (simp at hc)
      exact ⟨k', rfl, .inr ⟨this, rfl⟩⟩
     | false =>
      rw [hb] at h
      exact ih h
   · rw [if_neg hc] at h
     rw [List.lookup_cons] at h ⊢
     cases hb : x == n with
     | true =>
      rw [hb] at h
      cases h
      exact ⟨k', rfl, .inl rfl⟩
     | false =>
      rw [hb] at h
      exact ih h
 exact go scope.names h
theorem zfp {scope : Scope} {env : Env} {x : Str} (h : scope.names.lookup x = some .free) : (relabel scope env).names.lookup x = some .cell ∨ (relabel scope env).names.lookup x = some .free := by
 have go : ∀ (names : List (Str × NameKind)), names.lookup x = some .free → (names.map fun (p : Str × NameKind) => if (p.2 == NameKind.free && env.scope.kind == .function && env.kindOf p.1 == some .cell) then (p.1, NameKind.cell) else (p.1, p.2)).lookup x = some .cell ∨
  (names.map fun (p : Str × NameKind) => if (p.2 == NameKind.free && env.scope.kind == .function && env.kindOf p.1 == some .cell) then (p.1, NameKind.cell) else (p.1, p.2)).lookup x = some .free := by
  intro names
  induction names with
  | nil => intro h; cases h
  | cons p r ih =>
   obtain ⟨n, k'⟩ := p
   intro h
   rw [List.map_cons]
   rw [List.lookup_cons] at h
   by_cases hc : (k' == NameKind.free && env.scope.kind == .function && env.kindOf n == some .cell) = true
   · rw [if_pos hc, List.lookup_cons]
     cases hb : x == n with
     | true => exact .inl rfl
     | false =>
      rw [hb] at h
      exact ih h
   · rw [if_neg hc, List.lookup_cons]
     cases hb : x == n with
     | true =>
      rw [hb] at h
      exact .inr h
     | false =>
      rw [hb] at h
      exact ih h
 exact go scope.names h
section
variable {X : Cx} {pins : List (Addr × Obj)} {σ : St} {H : Hp} {s : Shared}
theorem zd6 {N' : List Str} {js : Cap} {scope : Scope} {cl : List (Str × Addr)} {fp : List Addr} {h₁ : Heap} {t' : Nat} (ok : CapOk X N' js scope) (I : Inv X pins σ H s)
 (h2 : ∀ x c, cl.lookup x = some c → X.env.cells.lookup x = some c) (h3 : ∀ p ∈ scope.names, p.2 = .free → (cl.lookup p.1).isSome = true)
 (hf : ∀ b ∈ fp, FpOk X pins H b) (hlt : ∀ b ∈ fp, b < s.heap.objs.size)
 (k : ∀ b u, s.heap.get? b = some u → h₁.get? b = some u) (hn : ∃ m, h₁.Ns s.heap.objs.size m) :
 Inv (lcx X N' scope cl s.heap.objs.size s H fp) [] (inn js σ) H { s with heap := h₁, toks := t' } := by
 have fresh : H s.heap.objs.size = none := I.hok.fresh (Nat.le_refl _)
 have kind_of : ∀ x, ((relabel scope X.env).names.lookup x = some .cell ∨ (relabel scope X.env).names.lookup x = some .free) → scope.names.lookup x = some .free := fun x hx => by
  rcases hx with hx | hx
  · obtain ⟨k0, e, z⟩ := zdj hx
    rcases z with z | ⟨z, _⟩
    · subst z
      exact absurd rfl (ok.ncell _ (zcC e))
    · subst z; exact e
  · obtain ⟨k0, e, z⟩ := zdj hx
    rcases z with z | ⟨z, z'⟩
    · subst z; exact e
    · cases z'
 have okc : (lcx X N' scope cl s.heap.objs.size s H fp).Ok := by
  refine ⟨I.ok.mod, ok.kind, I.ok.glob, I.ok.blt, Nat.le_refl _, fun x y c e1 e2 => I.ok.inj x y c (h2 x c e1) (h2 y c e2), fun x hx => ?_, fun x c hx => (nomatch hx), I.ok.hd, I.ok.frames, .inl rfl, fun b hb => ⟨Nat.ne_of_lt (hlt b hb), fun x c e => ?_⟩, I.bs, Nat.le_trans I.ok.bsz I.sz, fun b o e hb => ?_, fun b hb hb' => ?_, I.stack, I.stkFree⟩
  · have e := kind_of x hx
    have z := h3 _ (zcC e) rfl
    cases q : cl.lookup x with
    | none => rw [q] at z; cases z
    | some c => exact ⟨c, q⟩
  · exact (hf b hb).2.2.2.2.1 x c (h2 x c e)
  · rcases (hf b hb).2.2.2.1 with z | z
    · exact I.ok.noex b o e z
    · exact absurd (Nat.lt_of_lt_of_le (Heap.lt_size e) (Nat.le_trans I.ok.bsz z)) (Nat.lt_irrefl _)
  · rcases List.mem_cons.mp (I.stkSub b hb') with z | z
    · exact (hf b hb).2.1 z
    · exact (hf b hb).2.2.1 z
 obtain ⟨m, hn⟩ := hn
 refine ⟨okc, rfl, I.bare, Un.kept k, ⟨m, hn, fun i x v e1 e2 e3 => ?_⟩, fun x c e => ?_, fresh, fun x c e => I.freeC x c (h2 x c e), (fun p hp => nomatch hp), I.hok.kept k, by show (inn js σ).length = N'.length; unfold inn; rw [List.length_map]; exact ok.len⟩
 · have e2 : (inn js σ)[i]? = some (some v) := e2
   unfold inn at e2
   rw [List.getElem?_map] at e2
   cases q : js[i]? with
   | none => rw [q] at e2; cases e2
   | some o =>
    rw [q] at e2
    cases o with
    | none => cases e2
    | some j =>
     obtain ⟨x', n1, n2, n3⟩ := ok.cap i j q
     have e1 : N'[i]? = some x := e1
     rw [n1] at e1
     cases e1
     have e2 : (σ[j]?).join = some v := Option.some.inj e2
     have e2' : σ[j]? = some (some v) := by
      cases q2 : σ[j]? with
      | none => rw [q2] at e2; cases e2
      | some o2 => rw [q2] at e2; exact congrArg some e2
     obtain ⟨mo, hno, hlo⟩ := I.loc
     have kx := ok.free _ (zcC n3) rfl
     have vis : Vis X.env.scope x := by
      rcases kx with z | z
      · exact .inr (.inl z)
      · exact .inr (.inr z)
     obtain ⟨u, r, l⟩ := hlo j x v n2 e2' vis
     refine ⟨u, r, .inr ⟨zfp n3, ?_⟩⟩
     rcases l with ⟨z, _⟩ | ⟨_, c, hc, hcell⟩
     · rcases kx with y | y <;> (rw [z] at y; cases y)
     · have z := h3 _ (zcC n3) rfl
       cases q3 : cl.lookup x with
       | none => rw [q3] at z; cases z
       | some c' =>
        have := h2 x c' q3
        rw [hc] at this
        cases this
        exact ⟨c, q3, hcell.keeps k⟩
 · obtain ⟨v, hv⟩ := I.cell x c (h2 x c e)
   exact ⟨v, hv.keeps k⟩
end
section
variable {X : Cx} {tg iter elt : Expr} {ifs : List Expr} {wi : TI} {js : Cap} {g : TG} {tc : TT} {te : TE} {N' : List Str} {scope : Scope} {pos : Pos}
theorem zhj {pins : List (Addr × Obj)} {σ : St} {H : Hp} {s : Shared} {E : Value → Shared → Prop} {Q : VK} {J : It} {it : Addr} {fp : List Addr} {tn : Nat → Heap → Prop} {cl : List (Str × Addr)}
 (hc : X.calm = true) (ok : CapOk X N' js scope)
 (h2 : ∀ x c, cl.lookup x = some c → X.env.cells.lookup x = some c) (h3 : ∀ p ∈ scope.names, p.2 = .free → (cl.lookup p.1).isSome = true)
 (hg : ∀ cl C s₀ H₀ ex, PG (lcx X N' scope cl C s₀ H₀ ex) tg g) (ht : ∀ cl C s₀ H₀ ex, PIfs (lcx X N' scope cl C s₀ H₀ ex) ifs tc) (he : ∀ cl C s₀ H₀ ex, PE (lcx X N' scope cl C s₀ H₀ ex) elt te)
 (I : Inv X pins σ H s) (T : Turn X.prog X.w X.K tg J fp it tn) (st : tn 0 s.heap) (hf : ∀ b ∈ fp, FpOk X pins H b)
 (hw : ∀ p, H p = none → zcn J p js g tc te σ H Q) :
 wpAny (model X.prog X.w) X.A (newList []) (fun acc s₃ => wpAny (model X.prog X.w) X.A (newFunctionEnv scope X.env.globals cl [] X.env.qual none .none (some X.env)) (fun cenv s₄ =>
  codeAny (model X.prog X.w) X.A (.compStart (.ListComp elt [⟨tg, iter, ifs, 0⟩] scope pos) 0 (.ref it) acc { cenv with scope := relabel scope X.env })
   (fun r s' => r = .ok .next ∧ (∃ m, s'.heap.Ns cenv.locals m) ∧ ∃ v H', RelV v acc ∧ Inv X pins σ H' s' ∧ FpOk X pins H' cenv.locals ∧ Q v H') s₄) E s₃) E s := by
 have objs := T.obj _ _ st
 refine wpAny_newObj_type ?_ (by show 0 ≤ sizeLine; decide)
 obtain ⟨W, ⟨m0, w0⟩, turn⟩ := hw s.heap.objs.size (I.hok.fresh (Nat.le_refl _))
 generalize hp : s.heap.objs.size = p at *
 have kp : ∀ b u, s.heap.get? b = some u → (s.heap.push { cls := .type "list", dict := none, data := .seq ([] : List Value).toArray }).get? b = some u := fun b u e => Heap.get?_push_of_some _ e
 have I3 : Inv X pins σ (upd H p (.lst [])) { s with heap := s.heap.push { cls := .type "list", dict := none, data := .seq ([] : List Value).toArray } } := by
  refine I.laid (t' := s.toks) kp (by rw [hp]; exact Nat.le_refl _) ⟨Nat.zero_le _, [], 0, .nil, ?_⟩
  have := Heap.get?_push_size s.heap (o := { cls := .type "list", dict := none, data := .seq ([] : List Value).toArray }) rfl
  rw [hp] at this
  exact this
 have fne : ∀ b ∈ fp, b ≠ p := fun b hb => by
  obtain ⟨o, e, _⟩ := objs b hb
  have := Heap.lt_size e
  rw [← hp]
  exact Nat.ne_of_lt this
 have hf3 : ∀ b ∈ fp, FpOk X pins (upd H p (.lst [])) b := fun b hb => ⟨by rw [zak (fne b hb)]; exact (hf b hb).1, (hf b hb).2⟩
 have st3 : tn 0 (s.heap.push { cls := .type "list", dict := none, data := .seq ([] : List Value).toArray }) := T.keep _ _ _ st fun b _ o e => kp b o e
 have lt3 : ∀ b ∈ fp, b < (s.heap.push { cls := .type "list", dict := none, data := .seq ([] : List Value).toArray }).objs.size := fun b hb => by
  obtain ⟨o, e, _⟩ := objs b hb
  exact Heap.lt_size (kp b o e)
 generalize hs3 : ({ s with heap := s.heap.push { cls := .type "list", dict := none, data := .seq ([] : List Value).toArray } } : Shared) = s3 at *
 have eh : s.heap.push { cls := .type "list", dict := none, data := .seq ([] : List Value).toArray } = s3.heap := by rw [← hs3]
 rw [eh] at st3 lt3
 refine wpAny_newFunctionEnv ok.ncell (by intro y hy; simp at hy) (fun h₁ hns₁ hsb₁ => ?_) ok.kind
 try dsimp only at hns₁ hsb₁ ⊢
 have k4 : ∀ b u, s3.heap.get? b = some u → h₁.get? b = some u := fun b u e => (hsb₁.2 b (Nat.ne_of_lt (Heap.lt_size e))).trans (Heap.get?_push_of_some _ e)
 have I4 := zd6 (cl := cl) (h₁ := h₁) (t' := s3.toks + ([] : List (Str × Value)).length) ok I3 h2 h3 hf3 lt3 k4 ⟨_, hns₁⟩
 have st4 : tn 0 h₁ := T.keep _ _ _ st3 fun b _ o e => k4 b o e
 generalize hX : lcx X N' scope cl s3.heap.objs.size s3 (upd H p (.lst [])) fp = X' at I4
 have hg' : PG X' tg g := by rw [← hX]; exact hg _ _ _ _ _
 have ht' : PIfs X' ifs tc := by rw [← hX]; exact ht _ _ _ _ _
 have he' : PE X' elt te := by rw [← hX]; exact he _ _ _ _ _
 have eP : X'.prog = X.prog := by rw [← hX]; rfl
 have ew : X'.w = X.w := by rw [← hX]; rfl
 have eK : X'.K = X.K := by rw [← hX]; rfl
 have ec : X'.calm = true := by rw [← hX]; exact hc
 have eA : X'.A = X.A := by rw [← hX]; rfl
 have ex : X'.xe = fun _ _ => False := by rw [← hX]; rfl
 have eE : X'.env = compEnvC scope cl s3.heap.objs.size X.env := by rw [← hX]; rfl
 have eEx : X'.ex = fp := by rw [← hX]; rfl
 have eN : X'.pn = [] := by rw [← hX]; rfl
 have stat : ∀ {H' : Hp}, (∀ b ∈ fp, H' b = none) → ∀ b ∈ fp, FpOk X' [] H' b := fun {H'} hn b hb => by
  have okc := I4.ok
  refine ⟨hn b hb, (okc.exf b (by rw [eEx]; exact hb)).1, okc.exfs b (by rw [eEx]; exact hb), .inl (by rw [eEx]; exact hb), (okc.exf b (by rw [eEx]; exact hb)).2, fun q hq => ?_⟩
  rw [eN] at hq
  cases hq
 have loop : ∀ s₄ : Shared, s₄ = { s3 with heap := h₁, toks := s3.toks + ([] : List (Str × Value)).length } →
  codeAny (model X.prog X.w) X.A (.compLoop (.ListComp elt [⟨tg, iter, ifs, 0⟩] scope pos) 0 (.ref it) (.ref p) (compEnvC scope cl s3.heap.objs.size X.env))
   (fun r s' => r = .ok .next ∧ (∃ m, s'.heap.Ns s3.heap.objs.size m) ∧ ∃ v H', RelV v (.ref p) ∧ Inv X pins σ H' s' ∧ FpOk X pins H' s3.heap.objs.size ∧ Q v H') s₄ := by
  rintro s₄ rfl
  refine zgW (fun n s' => ∃ i σ' ys H', Inv X' [] σ' H' s' ∧ tn i s'.heap ∧ (∀ b ∈ fp, H' b = none) ∧ W i n σ' ys H') ?_ m0 ⟨0, _, [], _, I4, st4, fun b hb => (hf3 b hb).1, w0⟩
  rintro n s5 ⟨i, σ5, ys, H5, I5, st5, fr5, w5⟩
  obtain ⟨hp5, tu⟩ := turn i n σ5 ys H5 w5
  rcases tu with ⟨stop, qn⟩ | ⟨go, hz, step⟩
  · have D := T.done X' eP ew eK ec i [] s5 σ5 H5 (fun _ _ => False) I5 (stat fr5) st5 stop
    rw [eA] at D
    refine thn D fun r s6 ⟨hr, I6⟩ => ?_
    subst hr
    refine ⟨rfl, ?_, .ref p, H5, rfl, ?_, ?_, qn⟩
    · obtain ⟨m, hm, _⟩ := I6.loc
      rw [eE] at hm
      exact ⟨m, hm⟩
    · have b6 := I6.base
      have ho := I6.os
      have hk := I6.hok
      have hb := I6.bare
      subst hX
      exact I3.call' (ch := fp) ho b6 hk hb fun b hb' => ⟨(hf b hb').2.2.2.1, (hf b hb').2.1, (hf b hb').2.2.2.2.1, (hf b hb').2.2.2.2.2⟩
    · have fr := I6.free
      rw [eE] at fr
      exact I3.fpOk (Nat.le_refl _) fr
  · have D := T.item X' eP ew eK ec i [] s5 σ5 H5 (fun _ _ => False) I5 (stat fr5) st5 go
    rw [eA] at D
    refine thn D fun r s6 ⟨u, hr, h6⟩ => ?_
    subst hr
    refine thn h6 fun _ s7 ⟨x, H7, I7, r7, y7, st7, fr7⟩ => ?_
    have I7' := I7.pinned (stat fr7) (T.obj _ _ st7)
    have G := hg' _ s7 σ5 H7 x u _ I7' r7 (step x H7 y7)
    rw [eP, ew, eA, ex, eE] at G
    refine thn G fun _ s8 ⟨σ8, H8, I8, q8⟩ => ?_
    have Tt := ht' _ s8 σ8 H8 _ I8 q8
    rw [eP, ew, eA, ex, eE] at Tt
    refine thn Tt fun b s9 ⟨H9, I9, q9⟩ => ?_
    have again : ∀ {s' : Shared} {ys' : List V} {H' : Hp}, Inv X' ([] ++ zcT fp s7.heap) σ8 H' s' → (∃ m', m' < n ∧ W (i + 1) m' σ8 ys' H') →
     ∃ m, m < n ∧ ∃ i σ' ys H', Inv X' [] σ' H' s' ∧ tn i s'.heap ∧ (∀ b ∈ fp, H' b = none) ∧ W i m σ' ys H' := fun {s' ys' H'} I' ⟨m', hm, w'⟩ => by
     refine ⟨m', hm, i + 1, σ8, ys', H', I'.unpinned, T.keep _ _ _ st7 fun b hb o e => (I'.pin (b, o) (List.mem_append_right _ (List.mem_append_right _ (za2 hb e)))).1, fun b hb => ?_, w'⟩
     obtain ⟨o, e, d⟩ := T.obj _ _ st7 b hb
     exact (I'.pin (b, o) (List.mem_append_right _ (List.mem_append_right _ (za2 hb e)))).2.1
    cases b with
    | false => exact again I9 q9
    | true =>
     have Ee := he' _ s9 σ8 H9 _ I9 q9
     rw [eP, ew, eA, ex, eE] at Ee
     show wpAny _ _ _ _ _ _
     refine thn Ee fun xv s10 ⟨y, H10, I10, r10, hp10, q10⟩ => ?_
     have Ap := zcl (X := X') _ s10 σ8 H10 (.ref p) [y] (.ref p) [xv] (fun _ H' => H' = upd H10 p (.lst (ys ++ [y]))) I10 rfl (.cons r10 .nil) ⟨p, ys, y, rfl, rfl, hp10, hz, rfl⟩
     rw [eP, ew, eA, ex] at Ap
     refine thn Ap fun _ s11 ⟨_, H11, I11, _, e11⟩ => ?_
     subst e11
     exact again I11 q10
 exact codeAny_compStart_list (loop _ rfl) (T.self _ 0 _ _ _ st4 (loop _ rfl))
theorem zdq (hc : X.calm = true) (ok : CapOk X N' js scope) (hi : PI X tg iter wi)
 (hg : ∀ cl C s₀ H₀ ex, PG (lcx X N' scope cl C s₀ H₀ ex) tg g) (ht : ∀ cl C s₀ H₀ ex, PIfs (lcx X N' scope cl C s₀ H₀ ex) ifs tc) (he : ∀ cl C s₀ H₀ ex, PE (lcx X N' scope cl C s₀ H₀ ex) elt te)
 (hs : ∀ x, foldedSetIterable iter X.env x = pure x := by intro _; rfl) : PE X (.ListComp elt [⟨tg, iter, ifs, 0⟩] scope pos) (tLC wi js g tc te) := by
 intro pins s σ H Q I h
 obtain ⟨cl, c1, c2, c3⟩ := ze9 (scope := scope) I.ok.has ok.free
 rw [eval_ListComp]
 refine wpAny_comprehension_free (use := none) rfl hs c1 ok.kind ok.names (thn (hi pins s σ H _ I h) fun v s1 h1 => thn h1 fun itv s2 h2 => ?_)
 obtain ⟨it, fp, tn, J, H2, e, I2, T, st2, f2, hw⟩ := h2
 subst e
 refine wpAny_mono (zhj (iter := iter) (pos := pos) hc ok c2 c3 hg ht he I2 T st2 f2 hw) (fun acc s3 h3 => wpAny_mono h3 (fun cenv s4 h4 => ?_) fun _ _ z => z) fun _ _ z => z
 refine codeAny_mono h4 fun r s5 h5 => ?_
 obtain ⟨rfl, ⟨m, hm⟩, v, H5, rv, I5, f5, q5⟩ := h5
 refine ⟨m, hm, fun h' sb => ?_⟩
 obtain ⟨f0, f1, _, f3, f4, f6⟩ := f5
 exact ⟨v, H5, I5.turned (t' := s5.toks) (fun b o hb e => (sb.2 b hb).trans e) f0 f1 f3 f4 f6, rv, q5⟩
theorem zcz {i : Nat} {x : Str} {px : Pos} {spos : Pos} (hN : X.N.Nodup) (hi' : X.N[i]? = some x) (hx : Loc X.env.scope x) (hc : X.calm = true) (ok : CapOk X N' js scope) (hi : PI X tg iter wi)
 (hg : ∀ cl C s₀ H₀ ex, PG (lcx X N' scope cl C s₀ H₀ ex) tg g) (ht : ∀ cl C s₀ H₀ ex, PIfs (lcx X N' scope cl C s₀ H₀ ex) ifs tc) (he : ∀ cl C s₀ H₀ ex, PE (lcx X N' scope cl C s₀ H₀ ex) elt te)
 (hsw : swapsWith (.ListComp elt [⟨tg, iter, ifs, 0⟩] scope pos) (some (.Name x px)) spos.line X.env = pure true := by rfl)
 (hs : ∀ x, foldedSetIterable iter X.env x = pure x := by intro _; rfl) (hf : X.fn x = true ∨ X.env.scope.names.lookup x = some .local := by first | exact .inl rfl | exact .inr rfl | assumption) :
 PS X (.Assign [.Name x px] (.ListComp elt [⟨tg, iter, ifs, 0⟩] scope pos) spos) (tAsg (tLC wi js g tc te) (zhS i)) := by
 intro pins s σ H D I h
 obtain ⟨cl, c1, c2, c3⟩ := ze9 (scope := scope) I.ok.has ok.free
 rw [exec_Assign_Name_used _ _ _ _ hsw]
 refine wpAny_bind (wpAny_standAt (wpAny_bind ?_))
 show wpAny _ X.A (do let _ ← comprehension (.ListComp elt [⟨tg, iter, ifs, 0⟩] scope pos) scope X.env _ (newList []) false (eval iter X.env) (some (assign (.Name x px) X.env))) _ _ s
 refine wpAny_bind (wpAny_mono (wpAny_comprehension_free (use := some (assign (.Name x px) X.env)) (Q := fun _ s' => SP X pins D .next s') rfl hs c1 ok.kind ok.names
  (thn (hi pins s σ H _ I h) fun v s1 h1 => thn h1 fun itv s2 h2 => ?_)) (fun _ s' hq => wpAny_pure (wpAny_pure hq)) fun _ _ e => e)
 obtain ⟨it, fp, tn, J, H2, e, I2, T, st2, f2, hw⟩ := h2
 subst e
 refine wpAny_mono (zhj (Q := fun x H1 => zhS i x σ H1 D.nx) (iter := iter) (pos := pos) hc ok c2 c3 hg ht he I2 T st2 f2 hw) (fun acc s3 h3 => wpAny_mono h3 (fun cenv s4 h4 => ?_) fun _ _ z => z) fun _ _ z => z
 refine codeAny_mono h4 fun r s5 h5 => ?_
 obtain ⟨rfl, ⟨m, hm⟩, v, H5, rv, I5, f5, q5⟩ := h5
 obtain ⟨f0, f1, f2', f3, f4, f6⟩ := f5
 show wpAny _ X.A (assign (.Name x px) X.env acc) _ _ _
 refine wpAny_assign_Name (zfk I5 hN hi' hx rv (fun s6 I6 ch => ?_) hf)
 obtain ⟨a, sb, ha⟩ := ch
 have na : cenv.locals ≠ a := by
  rcases ha with z | z
  · rw [z]; exact f1
  · exact fun y => f4 x a z y.symm
 refine ⟨m, hm.sameBut sb na, fun h' sb' => ⟨_, H5, I6.turned (t' := s6.toks) (fun b o hb e => (sb'.2 b hb).trans e) f0 f1 f3 f4 f6, q5⟩⟩
end
end L2
set_option exponentiation.threshold 2000
namespace L2
open PySem PySem.Spec PyProof.Rows
def zl8 (i j : Int) : Prop := 0 ≤ j ∧ j ≤ 1000 ∧ i.natAbs < 2 ^ 1000
def zmx (i j : Int) : Prop := 0 < j ∧ j < 2 ^ 1000
section
variable {X : Cx}
theorem zbs : OpR X (binaryOp .Pow) (rI zl8 fun i j => .int (i ^ j.toNat)) := opI fun i j _ _ _ _ _ hc q => by
 obtain ⟨h0, h1, h2⟩ := hc
 refine pow_int h0 ?_ q
 have hb : Builtin.Int.intBits i ≤ 1000 := intBits_le h2
 have e1 : ((Builtin.Int.intBits i : Nat) : Int) * j ≤ 1000 * 1000 := by
  have a1 : ((Builtin.Int.intBits i : Nat) : Int) * j ≤ 1000 * j := Int.mul_le_mul_of_nonneg_right (by omega) h0
  have a2 : 1000 * j ≤ 1000 * 1000 := Int.mul_le_mul_of_nonneg_left h1 (by decide)
  exact Int.le_trans a1 a2
 exact Int.le_trans e1 (by decide)
theorem zhd : OpR X (binaryOp .FloorDiv) (rI zmx fun i j => .int (i / j)) := opI fun i j _ _ _ _ _ hc q => by
 obtain ⟨h0, h1⟩ := hc
 refine floordiv_int (by omega) ?_ (.inl (PyProof.noPylong_of_log2 ?_))
 · rw [Int.fdiv_eq_ediv_of_nonneg _ (by omega)]
   exact q
 · have h2 : j.natAbs < 2 ^ 1000 := by
    have e : ((j.natAbs : Nat) : Int) = j := by omega
    have h3 : ((j.natAbs : Nat) : Int) < ((2 ^ 1000 : Nat) : Int) := by
     rw [e, Int.natCast_pow]
     exact h1
    exact Int.ofNat_lt.mp h3
   have h4 : j.natAbs ≠ 0 := by omega
   have h5 := (Nat.log2_lt h4).mpr h2
   omega
end
inductive PD where
 | non | bl (b : Bool) | int (i : Int) | str (x : Str) | lst (ds : List PD) | tup (ds : List PD)
mutual
def Rep (K : PySem.W.Frag) (H : Hp) : PD → V → Prop
 | .non, v => v = .non
 | .bl b, v => v = .bl b
 | .int i, v => v = .int i
 | .str x, v => v = .str x
 | .lst ds, v => ∃ a xs, v = .ref a ∧ SqL K H a xs ∧ Reps K H ds xs
 | .tup ds, v => ∃ a xs, v = .ref a ∧ SqT K H a xs ∧ Reps K H ds xs
def Reps (K : PySem.W.Frag) (H : Hp) : List PD → List V → Prop
 | [], xs => xs = []
 | d :: ds, xs => ∃ x r, xs = x :: r ∧ Rep K H d x ∧ Reps K H ds r
end
mutual
def pyEq : PD → PD → Bool
 | .non, .non => true
 | .bl a, .bl b => a == b
 | .bl a, .int b => (if a then 1 else 0) == b
 | .int a, .bl b => a == (if b then 1 else 0)
 | .int a, .int b => a == b
 | .str a, .str b => a == b
 | .lst xs, .lst ys => zcS xs ys
 | .tup xs, .tup ys => zcS xs ys
 | _, _ => false
def zcS : List PD → List PD → Bool
 | [], [] => true
 | x :: xs, y :: ys => pyEq x y && zcS xs ys
 | _, _ => false
end
mutual
def zb4 : PD → Nat
 | .lst ds => zbS ds + 1
 | .tup ds => zbS ds + 1
 | _ => 0
def zbS : List PD → Nat
 | [] => 0
 | d :: ds => max (zb4 d) (zbS ds)
end
mutual
theorem zbb : ∀ d : PD, pyEq d d = true
 | .non => rfl
 | .bl b => by simp [pyEq]
 | .int i => by simp [pyEq]
 | .str x => by simp [pyEq]
 | .lst ds => by rw [pyEq]; exact zcy ds
 | .tup ds => by rw [pyEq]; exact zcy ds
theorem zcy : ∀ ds : List PD, zcS ds ds = true
 | [] => by rw [zcS]
 | d :: ds => by rw [zcS, zbb d, zcy ds]; rfl
end
theorem Reps.length {K : PySem.W.Frag} {H : Hp} : ∀ {ds : List PD} {xs : List V}, Reps K H ds xs → xs.length = ds.length
 | [], xs, h => by rw [Reps] at h; rw [h]; rfl
 | d :: ds, xs, h => by
  rw [Reps] at h
  obtain ⟨x, r, rfl, _, h⟩ := h
  rw [List.length_cons, List.length_cons, Reps.length h]
theorem zbp : ∀ {xs ys : List PD}, xs.length ≠ ys.length → zcS xs ys = false
 | [], [], h => absurd rfl h
 | [], _ :: _, _ => by rw [zcS]; all_goals simp
 | _ :: _, [], _ => by rw [zcS]; all_goals simp
 | x :: xs, y :: ys, h => by
  rw [zcS, zbp (xs := xs) (ys := ys) (by simpa using h)]
  simp
def eqJ (xs ys : List PD) (j : Nat) : Bool := match xs[j]?, ys[j]? with
 | some a, some b => pyEq a b
 | _, _ => false
theorem zaZ : ∀ (xs ys : List PD), xs.length = ys.length → (List.range xs.length).all (eqJ xs ys) = zcS xs ys
 | [], [], _ => by rw [zcS]; rfl
 | x :: xs, y :: ys, h => by
  rw [zcS, List.length_cons, List.range_succ_eq_map, List.all_cons, List.all_map]
  rw [← zaZ xs ys (by simpa using h)]
  rfl
theorem SqT.notL {K : PySem.W.Frag} {X : Cx} {pins : List (Addr × Obj)} {σ : St} {H : Hp} {s : Shared} {a : Addr} {xs ys : List V} (I : Inv X pins σ H s) (h : SqT X.K H a xs) (h' : SqL X.K H a ys) : False := by
 obtain ⟨its, _, p, _⟩ := I.tuple h
 obtain ⟨its', _, p', _⟩ := I.list h'
 exact SeqAt.ne_of_list_tuple p'.isList (show s.heap.IsTuple a its.toArray from p) rfl
section
variable {X : Cx} {pins : List (Addr × Obj)} {σ : St} {H : Hp} {s : Shared}
mutual
theorem zgo (I : Inv X pins σ H s) : ∀ (d e : PD) (v : V), Rep X.K H d v → Rep X.K H e v → d = e
 | .non, e, v, h, h' => by
  rw [Rep] at h; subst h
  cases e <;> rw [Rep] at h' <;> first | rfl | (obtain ⟨_, _, z, _⟩ := h'; cases z; done) | (cases h'; done)
 | .bl b, e, v, h, h' => by
  rw [Rep] at h; subst h
  cases e <;> rw [Rep] at h' <;> first | (obtain ⟨_, _, z, _⟩ := h'; cases z; done) | (cases h'; done) | (cases h'; rfl)
 | .int i, e, v, h, h' => by
  rw [Rep] at h; subst h
  cases e <;> rw [Rep] at h' <;> first | (obtain ⟨_, _, z, _⟩ := h'; cases z; done) | (cases h'; done) | (cases h'; rfl)
 | .str x, e, v, h, h' => by
  rw [Rep] at h; subst h
  cases e <;> rw [Rep] at h' <;> first | (obtain ⟨_, _, z, _⟩ := h'; cases z; done) | (cases h'; done) | (cases h'; rfl)
 | .lst ds, e, v, h, h' => by
  rw [Rep] at h
  obtain ⟨a, xs, rfl, q, r⟩ := h
  cases e with
  | lst es =>
   rw [Rep] at h'
   obtain ⟨a', ys, z, q', r'⟩ := h'
   cases z
   have := I.list_inj q q'
   subst this
   rw [zeS I ds es xs r r']
  | tup es =>
   rw [Rep] at h'
   obtain ⟨a', ys, z, q', r'⟩ := h'
   cases z
   exact (SqT.notL (K := X.K) I q' q).elim
  | _ => rw [Rep] at h'; cases h'
 | .tup ds, e, v, h, h' => by
  rw [Rep] at h
  obtain ⟨a, xs, rfl, q, r⟩ := h
  cases e with
  | tup es =>
   rw [Rep] at h'
   obtain ⟨a', ys, z, q', r'⟩ := h'
   cases z
   have := I.tuple_inj q q'
   subst this
   rw [zeS I ds es xs r r']
  | lst es =>
   rw [Rep] at h'
   obtain ⟨a', ys, z, q', r'⟩ := h'
   cases z
   exact (SqT.notL (K := X.K) I q q').elim
  | _ => rw [Rep] at h'; cases h'
theorem zeS (I : Inv X pins σ H s) : ∀ (ds es : List PD) (vs : List V), Reps X.K H ds vs → Reps X.K H es vs → ds = es
 | [], es, vs, h, h' => by
  rw [Reps] at h; subst h
  cases es with
  | nil => rfl
  | cons e es => rw [Reps] at h'; obtain ⟨_, _, z, _⟩ := h'; cases z
 | d :: ds, es, vs, h, h' => by
  rw [Reps] at h
  obtain ⟨x, r, rfl, h1, h2⟩ := h
  cases es with
  | nil => rw [Reps] at h'; cases h'
  | cons e es =>
   rw [Reps] at h'
   obtain ⟨x', r', z, h1', h2'⟩ := h'
   cases z
   rw [zgo I d e x h1 h1', zeS I ds es r h2 h2']
end
mutual
theorem zc1 (I : Inv X pins σ H s) : ∀ (A : Around) (d e : PD) (v w : V) (u y : Value), Rep X.K H d v → Rep X.K H e w → RelV v u → RelV w y → A.units + zb4 d < cLine → SeqAt.EqAt A s u y (pyEq d e)
 | A, .non, e, v, w, u, y, h, h', r, r', z => by
  rw [Rep] at h; subst h; cases r
  cases e with
  | non => rw [Rep] at h'; subst h'; cases r'; rw [pyEq]; exact SeqAt.EqAt.same _
  | bl b => rw [Rep] at h'; subst h'; cases r'; exact SeqAt.EqAt.none_bool b
  | int b => rw [Rep] at h'; subst h'; obtain ⟨t, rfl⟩ := r'; exact SeqAt.EqAt.none_int b t
  | str b => rw [Rep] at h'; subst h'; obtain ⟨t, rfl⟩ := r'; exact SeqAt.EqAt.none_str b t
  | lst es => rw [Rep] at h'; obtain ⟨a, xs, rfl, q, _⟩ := h'; cases r'; obtain ⟨its, _, p, _⟩ := I.list q; exact SeqAt.EqAt.none_list p.isList (by omega)
  | tup es => rw [Rep] at h'; obtain ⟨a, xs, rfl, q, _⟩ := h'; cases r'; obtain ⟨its, _, p, _⟩ := I.tuple q; exact SeqAt.EqAt.none_tuple p (by omega)
 | A, .bl c, e, v, w, u, y, h, h', r, r', z => by
  rw [Rep] at h; subst h; cases r
  cases e with
  | non => rw [Rep] at h'; subst h'; cases r'; exact SeqAt.EqAt.bool_none c
  | bl b => rw [Rep] at h'; subst h'; cases r'; exact SeqAt.EqAt.bool_bool c b
  | int b => rw [Rep] at h'; subst h'; obtain ⟨t, rfl⟩ := r'; exact SeqAt.EqAt.bool_int c b t
  | str b => rw [Rep] at h'; subst h'; obtain ⟨t, rfl⟩ := r'; exact SeqAt.EqAt.bool_str c b t
  | lst es => rw [Rep] at h'; obtain ⟨a, xs, rfl, q, _⟩ := h'; cases r'; obtain ⟨its, _, p, _⟩ := I.list q; exact SeqAt.EqAt.bool_list c p.isList (by omega)
  | tup es => rw [Rep] at h'; obtain ⟨a, xs, rfl, q, _⟩ := h'; cases r'; obtain ⟨its, _, p, _⟩ := I.tuple q; exact SeqAt.EqAt.bool_tuple c p (by omega)
 | A, .int c, e, v, w, u, y, h, h', r, r', z => by
  rw [Rep] at h; subst h; obtain ⟨tc, rfl⟩ := r
  cases e with
  | non => rw [Rep] at h'; subst h'; cases r'; exact SeqAt.EqAt.int_none c tc
  | bl b => rw [Rep] at h'; subst h'; cases r'; exact SeqAt.EqAt.int_bool c tc b
  | int b => rw [Rep] at h'; subst h'; obtain ⟨t, rfl⟩ := r'; exact SeqAt.EqAt.int_int c tc b t
  | str b => rw [Rep] at h'; subst h'; obtain ⟨t, rfl⟩ := r'; exact SeqAt.EqAt.int_str c tc b t
  | lst es => rw [Rep] at h'; obtain ⟨a, xs, rfl, q, _⟩ := h'; cases r'; obtain ⟨its, _, p, _⟩ := I.list q; exact SeqAt.EqAt.int_list c tc p.isList (by omega)
  | tup es => rw [Rep] at h'; obtain ⟨a, xs, rfl, q, _⟩ := h'; cases r'; obtain ⟨its, _, p, _⟩ := I.tuple q; exact SeqAt.EqAt.int_tuple c tc p (by omega)
 | A, .str c, e, v, w, u, y, h, h', r, r', z => by
  rw [Rep] at h; subst h; obtain ⟨tc, rfl⟩ := r
  cases e with
  | non => rw [Rep] at h'; subst h'; cases r'; exact SeqAt.EqAt.str_none c tc
  | bl b => rw [Rep] at h'; subst h'; cases r'; exact SeqAt.EqAt.str_bool c tc b
  | int b => rw [Rep] at h'; subst h'; obtain ⟨t, rfl⟩ := r'; exact SeqAt.EqAt.str_int c tc b t
  | str b => rw [Rep] at h'; subst h'; obtain ⟨t, rfl⟩ := r'; exact SeqAt.EqAt.str_str c tc b t
  | lst es => rw [Rep] at h'; obtain ⟨a, xs, rfl, q, _⟩ := h'; cases r'; obtain ⟨its, _, p, _⟩ := I.list q; exact SeqAt.EqAt.str_list c tc p.isList (by omega)
  | tup es => rw [Rep] at h'; obtain ⟨a, xs, rfl, q, _⟩ := h'; cases r'; obtain ⟨its, _, p, _⟩ := I.tuple q; exact SeqAt.EqAt.str_tuple c tc p (by omega)
 | A, .lst ds, e, v, w, u, y, h, h', r, r', z => by
  have h0 := h
  rw [Rep] at h; obtain ⟨a, xs, rfl, q, qs⟩ := h; cases r
  obtain ⟨its, rv, p, _⟩ := I.list q
  cases e with
  | non => rw [Rep] at h'; subst h'; cases r'; exact SeqAt.EqAt.list_none p.isList (by omega)
  | bl b => rw [Rep] at h'; subst h'; cases r'; exact SeqAt.EqAt.list_bool b p.isList (by omega)
  | int b => rw [Rep] at h'; subst h'; obtain ⟨t, rfl⟩ := r'; exact SeqAt.EqAt.list_int b t p.isList (by omega)
  | str b => rw [Rep] at h'; subst h'; obtain ⟨t, rfl⟩ := r'; exact SeqAt.EqAt.list_str b t p.isList (by omega)
  | tup es => rw [Rep] at h'; obtain ⟨b, ys, rfl, q', _⟩ := h'; cases r'; obtain ⟨its', _, p', _⟩ := I.tuple q'; exact SeqAt.EqAt.list_tuple p.isList p' (by omega)
  | lst es =>
   have h0' := h'
   rw [Rep] at h'; obtain ⟨b, ys, rfl, q', qs'⟩ := h'; cases r'
   obtain ⟨its', rv', p', _⟩ := I.list q'
   by_cases hab : a = b
   · subst hab
     rw [zgo I _ _ _ h0 h0', zbb]
     exact SeqAt.EqAt.same _
   · refine SeqAt.EqAt.of_refs hab ?_
     rw [pyEq]
     rw [zb4] at z
     have l1 := qs.length
     have l2 := qs'.length
     have l3 := rv.length
     have l4 := rv'.length
     by_cases hl : ds.length = es.length
     · rw [← zaZ ds es hl]
       have := SeqAt.RcAt.lists (e := eqJ ds es) p.isList p'.isList (by simp; omega) (by omega) (fun j h1 h2 => ?_) (A := A)
       · simp only [List.size_toArray] at this
         rw [show ds.length = its.length by omega]
         exact this
       · have := zbJ I A.in1 ds es xs ys its its' qs qs' rv rv' (by rw [Around.in1_units]; omega) j (by simpa using h1) (by simpa using h2)
         simpa using this
     · rw [zbp hl]
       exact SeqAt.RcAt.lists_lengths p.isList p'.isList (by simp; omega) (by omega)
 | A, .tup ds, e, v, w, u, y, h, h', r, r', z => by
  have h0 := h
  rw [Rep] at h; obtain ⟨a, xs, rfl, q, qs⟩ := h; cases r
  obtain ⟨its, rv, p, _⟩ := I.tuple q
  cases e with
  | non => rw [Rep] at h'; subst h'; cases r'; exact SeqAt.EqAt.tuple_none p (by omega)
  | bl b => rw [Rep] at h'; subst h'; cases r'; exact SeqAt.EqAt.tuple_bool b p (by omega)
  | int b => rw [Rep] at h'; subst h'; obtain ⟨t, rfl⟩ := r'; exact SeqAt.EqAt.tuple_int b t p (by omega)
  | str b => rw [Rep] at h'; subst h'; obtain ⟨t, rfl⟩ := r'; exact SeqAt.EqAt.tuple_str b t p (by omega)
  | lst es => rw [Rep] at h'; obtain ⟨b, ys, rfl, q', _⟩ := h'; cases r'; obtain ⟨its', _, p', _⟩ := I.list q'; exact SeqAt.EqAt.tuple_list p p'.isList (by omega)
  | tup es =>
   have h0' := h'
   rw [Rep] at h'; obtain ⟨b, ys, rfl, q', qs'⟩ := h'; cases r'
   obtain ⟨its', rv', p', _⟩ := I.tuple q'
   by_cases hab : a = b
   · subst hab
     rw [zgo I _ _ _ h0 h0', zbb]
     exact SeqAt.EqAt.same _
   · refine SeqAt.EqAt.of_refs hab ?_
     rw [pyEq]
     rw [zb4] at z
     have l1 := qs.length
     have l2 := qs'.length
     have l3 := rv.length
     have l4 := rv'.length
     have := SeqAt.RcAt.tuples (e := eqJ ds es) p p' (by omega) (fun j h1 h2 => ?_) (A := A)
     · simp only [List.size_toArray] at this
       by_cases hl : ds.length = es.length
       · rw [← zaZ ds es hl]
         rw [show min its.length its'.length = ds.length by omega, show (its.length == its'.length) = true by simp; omega, Bool.and_true] at this
         exact this
       · rw [zbp hl]
         rw [show (its.length == its'.length) = false by simp; omega, Bool.and_false] at this
         exact this
     · have := zbJ I A.in1 ds es xs ys its its' qs qs' rv rv' (by rw [Around.in1_units]; omega) j (by simpa using h1) (by simpa using h2)
       simpa using this
theorem zbJ (I : Inv X pins σ H s) : ∀ (A : Around) (ds es : List PD) (vs ws : List V) (us ys : List Value), Reps X.K H ds vs → Reps X.K H es ws → Vals vs us → Vals ws ys → A.units + zbS ds < cLine →
 ∀ (j : Nat) (h1 : j < us.length) (h2 : j < ys.length), SeqAt.EqAt A s us[j] ys[j] (eqJ ds es j)
 | A, [], es, vs, ws, us, ys, h, h', r, r', z => by
  rw [Reps] at h; subst h; cases r
  intro j h1; exact absurd h1 (Nat.not_lt_zero _)
 | A, d :: ds, es, vs, ws, us, ys, h, h', r, r', z => by
  rw [Reps] at h
  obtain ⟨x, vr, rfl, g1, g2⟩ := h
  cases es with
  | nil =>
   rw [Reps] at h'; subst h'; cases r'
   intro j h1 h2; exact absurd h2 (Nat.not_lt_zero _)
  | cons e es =>
   rw [Reps] at h'
   obtain ⟨x', vr', rfl, g1', g2'⟩ := h'
   cases r with
   | cons ra rb =>
    cases r' with
    | cons ra' rb' =>
     rw [zbS] at z
     intro j h1 h2
     cases j with
     | zero => exact zc1 I A d e x x' _ _ g1 g1' ra ra' (by omega)
     | succ j => exact zbJ I A ds es vr vr' _ _ g2 g2' rb rb' (by omega) j (by simpa using h1) (by simpa using h2)
end
end
section
variable {prog : Program} {w : World} {A : Around} {R : Result → Shared → Prop} {J : Addr} {fo wo : List Addr} {len : Nat} {At : Nat → Value → Prop} {Sx : Nat → Heap → Prop}
theorem ziH (kw : List (Str × Value)) (Z : Walks prog w A.in1 J fo wo len At Sx) (bt : Nat → Nat → Bool) (cm : CmpOf prog w A.in1 .Gt At bt) (B : Addr) (nB : B ∉ fo) :
 ∀ (k j : Nat) (s : Shared) (best : Value) (c : Nat), len - (j + 1) = k → j + 1 ≤ len → Sx (j + 1) s.heap → At (argBest bt j) best →
 s.heap.get? B = some { cls := .type "list", dict := none, data := .seq #[best, best] c, slots := #[] } →
 (∀ v g t', At (argBest bt (len - 1)) v → (∀ b o, b ∉ wo → b ≠ B → s.heap.get? b = some o → g.get? b = some o) → R (.ok (.ret v)) { s with heap := g, toks := t' }) →
 codeAny (model prog w) A (.builtin "max.loop" ⟨[.ref J, .none, .ref B], kw⟩) R s := by
 have nW : B ∉ wo := fun z => nB (Z.sub _ z)
 have nm : (toString "max" ++ toString ".loop" : String) = "max.loop" := by decide
 intro k
 induction k with
 | zero =>
  intro j s best c e0 e1 sx ab eB fin
  have last : j + 1 = len := by omega
  refine codeAny_builtin F.entry_max_loop ?_
  rw [Around.under_plainId F.plain_max_loop _]
  show wpAny _ _ (seqItems? (.ref B) >>= _) _ _ _
  refine wpAny_bind (wpAny_seqItems eB rfl ?_)
  show wpAny _ _ (tryCatch (pyNext (.ref J)) _ >>= _) _ _ _
  refine wpAny_bind (wpAny_tryCatch (Z.done s _ _ (last ▸ sx) fun g t' kp => ?_))
  have eB' := kp B _ nW eB
  show wpAny _ _ (updateSeq B (fun _ => #[]) >>= _) _ _ _
  refine wpAny_bind ?_
  refine wpAny_updateSeq eB' rfl (wpAny_bind (wpAny_letGo (wpAny_pure ?_)))
  exact fin best _ t' (by rw [← last]; exact ab) fun b o h1 h2 e => (Heap.get?_update_other _ _ (Ne.symm h2)).trans (kp b o h1 e)
 | succ k ih =>
  intro j s best c e0 e1 sx ab eB fin
  have more : j + 1 < len := by omega
  refine codeAny_builtin F.entry_max_loop ?_
  rw [Around.under_plainId F.plain_max_loop _]
  show wpAny _ _ (seqItems? (.ref B) >>= _) _ _ _
  refine wpAny_bind (wpAny_seqItems eB rfl ?_)
  show wpAny _ _ (tryCatch (pyNext (.ref J)) _ >>= _) _ _ _
  refine wpAny_bind (wpAny_tryCatch (Z.item (j + 1) s _ _ more sx fun v g t' av sx' kp => ?_))
  have eB' := kp B _ nW eB
  show wpAny _ _ (tryCatch (holding [v, v] (richCompare .Gt v best >>= _)) _ >>= _) _ _ _
  refine wpAny_bind (wpAny_tryCatch (wpAny_holding (wpAny_bind (cm (j + 1) (argBest bt j) v best _ _ _ av ab ?_))))
  refine wpAny_bind (wpAny_holding (wpAny_truthy_bool ?_))
  refine wpAny_bind (wpAny_letGo (wpAny_pure ?_))
  cases hb : bt (j + 1) (argBest bt j) with
  | true =>
   simp only [if_true]
   refine wpAny_bind ?_
   refine wpAny_updateSeq eB' rfl (wpAny_bind (wpAny_letGo ?_))
   rw [nm]
   refine wpAny_pure ⟨plainId_quiet F.plain_max_loop _, ih (j + 1) _ v _ (by omega) more (Z.frame _ _ _ sx' fun b h1 o e => ?_) (by simp only [argBest, hb, if_true]; exact av) (Heap.get?_update_self _ eB' rfl)
    fun v' g' t'' av' kp' => ?_⟩
   · exact (Heap.get?_update_other _ _ (fun z : B = b => nB (by rw [z]; exact h1))).trans e
   · exact fin v' g' t'' av' fun b o h1 h2 e => kp' b o h1 h2 ((Heap.get?_update_other _ _ (Ne.symm h2)).trans (kp b o h1 e))
  | false =>
   simp only [Bool.false_eq_true, if_false]
   refine wpAny_bind (wpAny_letGo ?_)
   rw [nm]
   refine wpAny_pure ⟨plainId_quiet F.plain_max_loop _, ih (j + 1) _ best c (by omega) more sx' (by simp only [argBest, hb, Bool.false_eq_true, if_false]; exact ab) eB' fun v' g' t'' av' kp' => ?_⟩
   exact fin v' g' t'' av' fun b o h1 h2 e => kp' b o h1 h2 (kp b o h1 e)
theorem zhK (d : Value) (Z : Walks prog w A.in1 J fo wo len At Sx) (bt : Nat → Nat → Bool) (cm : CmpOf prog w A.in1 .Gt At bt) (B : Addr) (nB : B ∉ fo) {s : Shared} {c : Nat} (sx : Sx 0 s.heap)
 (eB : s.heap.get? B = some { cls := .type "list", dict := none, data := .seq #[] c, slots := #[] })
 (fin : ∀ v g t', (len = 0 → v = d) → (0 < len → At (argBest bt (len - 1)) v) → (∀ b o, b ∉ wo → b ≠ B → s.heap.get? b = some o → g.get? b = some o) → R (.ok (.ret v)) { s with heap := g, toks := t' }) :
 codeAny (model prog w) A (.builtin "max.loop" ⟨[.ref J, .none, .ref B], [("default", d)]⟩) R s := by
 have nW : B ∉ wo := fun z => nB (Z.sub _ z)
 have nm : (toString "max" ++ toString ".loop" : String) = "max.loop" := by decide
 refine codeAny_builtin F.entry_max_loop ?_
 rw [Around.under_plainId F.plain_max_loop _]
 show wpAny _ _ (seqItems? (.ref B) >>= _) _ _ _
 refine wpAny_bind (wpAny_seqItems eB rfl ?_)
 show wpAny _ _ (tryCatch (pyNext (.ref J)) _ >>= _) _ _ _
 by_cases hl : len = 0
 · refine wpAny_bind (wpAny_tryCatch (Z.done s _ _ (hl ▸ sx) fun g t' kp => ?_))
   refine wpAny_bind (wpAny_rule (wpAny_pure ?_))
   exact fin d g t' (fun _ => rfl) (fun z => by omega) fun b o h1 _ e => kp b o h1 e
 · refine wpAny_bind (wpAny_tryCatch (Z.item 0 s _ _ (by omega) sx fun v g t' av sx' kp => ?_))
   have eB' := kp B _ nW eB
   show wpAny _ _ (updateSeq B (fun _ => #[v, v]) >>= _) _ _ _
   refine wpAny_bind ?_
   refine wpAny_updateSeq eB' rfl ?_
   rw [nm]
   refine wpAny_pure ⟨plainId_quiet F.plain_max_loop _, ziH [("default", d)] Z bt cm B nB _ 0 _ v _ rfl (by omega) (Z.frame _ _ _ sx' fun b h1 o e => ?_) av (Heap.get?_update_self _ eB' rfl) fun v' g' t'' av' kp' => ?_⟩
   · exact (Heap.get?_update_other _ _ (fun z : B = b => nB (by rw [z]; exact h1))).trans e
   · exact fin v' g' t'' (fun z => by omega) (fun _ => av') fun b o h1 h2 e => kp' b o h1 h2 ((Heap.get?_update_other _ _ (Ne.symm h2)).trans (kp b o h1 e))
theorem zhL (a d : Value) : argsOk "max" ⟨[a], [("default", d)]⟩ := by unfold argsOk; kernel_rfl
theorem zgM {E : Value → Shared → Prop} {s : Shared} {a : Addr} {its : Array Value} {d : Value} {Q : Value → Shared → Prop} (hh : A.handled = none) (hl : s.heap.IsList a its) (bt : Nat → Nat → Bool)
 (cm : CmpOf prog w A.in1 .Gt (fun i v => its[i]? = some v) bt)
 (fin : ∀ v g t', (its.size = 0 → v = d) → (0 < its.size → its[argBest bt (its.size - 1)]? = some v) → (∀ b o, s.heap.get? b = some o → g.get? b = some o) → Q v { s with heap := g, toks := t' }) :
 wpAny (model prog w) A (call (.builtin "max") [.ref a] [("default", d)]) Q E s := by
 have nm : (toString "max" ++ toString ".loop" : String) = "max.loop" := by decide
 refine wpAny_call (codeAny_call_builtin F.plain_max F.entry_max ?_)
 have body : wpAny (model prog w) A.in1 (Builtin.«max» ⟨[.ref a], [("default", d)]⟩) (fun fin s' => match fin with
  | .done f => (match (Except.ok f : Result) with | .ok (.ret v) => Q v s' | .ok _ => False | .error e => E e s')
  | .again c' => c'.quiet = true ∧ codeAny (model prog w) A c' (fun r s' => match r with | .ok (.ret v) => Q v s' | .ok _ => False | .error e => E e s') s') E s := by
  show wpAny _ A.in1 (Builtin.Builtins.bindParams "max" ["key", "default"] 0 ⟨[], [("default", d)]⟩ >>= _) _ _ s
  refine wpAny_bind (wpAny_of_eq (show Builtin.Builtins.bindParams "max" ["key", "default"] 0 ⟨[], [("default", d)]⟩ = pure [none, some d] from rfl) ?_)
  refine wpAny_bind (wpAny_pure ?_)
  refine wpAny_bind (wpAny_pyIter_list hl ?_)
  refine wpAny_bind (wpAny_newObj_type ?_)
  rw [nm]
  obtain ⟨o, ho, _⟩ := id hl
  have lt := Heap.lt_size ho
  have sz : (s.heap.push { cls := .type "list_iterator", data := .fields #[.ref a, .int 0 0] }).objs.size = s.heap.objs.size + 1 := Heap.size_push _ _
  have kp : ∀ b o', s.heap.get? b = some o' → ((s.heap.push { cls := .type "list_iterator", data := .fields #[.ref a, .int 0 0] }).push { cls := .type "list", dict := none, data := .seq ([] : List Value).toArray }).get? b = some o' :=
   fun b o' e => Heap.get?_push_of_some _ (Heap.get?_push_of_some _ e)
  refine wpAny_pure ⟨plainId_quiet F.plain_max_loop _, zhK d (Walks.list (A := A.in1) hh s.heap.objs.size a (Nat.ne_of_lt lt) its) bt cm _ ?_
   ⟨⟨_, Heap.get?_push_of_some _ (Heap.get?_push_size _ rfl), rfl, rfl⟩, hl.at fun o' e => kp a o' e⟩ (Heap.get?_push_size _ rfl) fun v g t' h1 h2 h3 => ?_⟩
  · show (s.heap.push _).objs.size ∉ [s.heap.objs.size, a]
    rw [sz]
    intro z
    rcases List.mem_cons.mp z with z | z
    · exact Nat.succ_ne_self _ z
    · have z' := List.mem_singleton.mp z
      rw [← z'] at lt
      exact absurd lt (Nat.not_lt.mpr (Nat.le_succ _))
  · refine fin v g t' h1 h2 fun b o' e => h3 b o' ?_ ?_ (kp b o' e)
    · intro z
      exact absurd (List.mem_singleton.mp z) (Nat.ne_of_lt (Heap.lt_size e))
    · have := Heap.lt_size e
      show b ≠ (s.heap.push _).objs.size
      rw [sz]
      exact Nat.ne_of_lt (Nat.lt_succ_of_lt this)
 simp only [checkBuiltinCall, F.kind_max]
 cases hsig : Manifest.signature? "max" with
 | none => exact wpAny_pure body
 | some sig =>
  have ha' : Bind.checkArgs "max" sig ⟨[.ref a], [("default", d)]⟩ = pure () := by
   have := zhL (.ref a) d
   simpa only [argsOk, hsig] using this
  simp only [ha']
  exact wpAny_pure body
end
section
variable {prog : Program} {w : World} {A : Around} {R : Result → Shared → Prop} {J : Addr} {fo wo : List Addr} {len : Nat} {At : Nat → Value → Prop} {Sx : Nat → Heap → Prop}
theorem ziG (kw : List (Str × Value)) (Z : Walks prog w A.in1 J fo wo len At Sx) (bt : Nat → Nat → Bool) (cm : CmpOf prog w A.in1 .Lt At bt) (B : Addr) (nB : B ∉ fo) :
 ∀ (k j : Nat) (s : Shared) (best : Value) (c : Nat), len - (j + 1) = k → j + 1 ≤ len → Sx (j + 1) s.heap → At (argBest bt j) best →
 s.heap.get? B = some { cls := .type "list", dict := none, data := .seq #[best, best] c, slots := #[] } →
 (∀ v g t', At (argBest bt (len - 1)) v → (∀ b o, b ∉ wo → b ≠ B → s.heap.get? b = some o → g.get? b = some o) → R (.ok (.ret v)) { s with heap := g, toks := t' }) →
 codeAny (model prog w) A (.builtin "min.loop" ⟨[.ref J, .none, .ref B], kw⟩) R s := by
 have nW : B ∉ wo := fun z => nB (Z.sub _ z)
 have nm : (toString "min" ++ toString ".loop" : String) = "min.loop" := by decide
 intro k
 induction k with
 | zero =>
  intro j s best c e0 e1 sx ab eB fin
  have last : j + 1 = len := by omega
  refine codeAny_builtin F.entry_min_loop ?_
  rw [Around.under_plainId F.plain_min_loop _]
  show wpAny _ _ (seqItems? (.ref B) >>= _) _ _ _
  refine wpAny_bind (wpAny_seqItems eB rfl ?_)
  show wpAny _ _ (tryCatch (pyNext (.ref J)) _ >>= _) _ _ _
  refine wpAny_bind (wpAny_tryCatch (Z.done s _ _ (last ▸ sx) fun g t' kp => ?_))
  have eB' := kp B _ nW eB
  show wpAny _ _ (updateSeq B (fun _ => #[]) >>= _) _ _ _
  refine wpAny_bind ?_
  refine wpAny_updateSeq eB' rfl (wpAny_bind (wpAny_letGo (wpAny_pure ?_)))
  exact fin best _ t' (by rw [← last]; exact ab) fun b o h1 h2 e => (Heap.get?_update_other _ _ (Ne.symm h2)).trans (kp b o h1 e)
 | succ k ih =>
  intro j s best c e0 e1 sx ab eB fin
  have more : j + 1 < len := by omega
  refine codeAny_builtin F.entry_min_loop ?_
  rw [Around.under_plainId F.plain_min_loop _]
  show wpAny _ _ (seqItems? (.ref B) >>= _) _ _ _
  refine wpAny_bind (wpAny_seqItems eB rfl ?_)
  show wpAny _ _ (tryCatch (pyNext (.ref J)) _ >>= _) _ _ _
  refine wpAny_bind (wpAny_tryCatch (Z.item (j + 1) s _ _ more sx fun v g t' av sx' kp => ?_))
  have eB' := kp B _ nW eB
  show wpAny _ _ (tryCatch (holding [v, v] (richCompare .Lt v best >>= _)) _ >>= _) _ _ _
  refine wpAny_bind (wpAny_tryCatch (wpAny_holding (wpAny_bind (cm (j + 1) (argBest bt j) v best _ _ _ av ab ?_))))
  refine wpAny_bind (wpAny_holding (wpAny_truthy_bool ?_))
  refine wpAny_bind (wpAny_letGo (wpAny_pure ?_))
  cases hb : bt (j + 1) (argBest bt j) with
  | true =>
   simp only [if_true]
   refine wpAny_bind ?_
   refine wpAny_updateSeq eB' rfl (wpAny_bind (wpAny_letGo ?_))
   rw [nm]
   refine wpAny_pure ⟨plainId_quiet F.plain_min_loop _, ih (j + 1) _ v _ (by omega) more (Z.frame _ _ _ sx' fun b h1 o e => ?_) (by simp only [argBest, hb, if_true]; exact av) (Heap.get?_update_self _ eB' rfl)
    fun v' g' t'' av' kp' => ?_⟩
   · exact (Heap.get?_update_other _ _ (fun z : B = b => nB (by rw [z]; exact h1))).trans e
   · exact fin v' g' t'' av' fun b o h1 h2 e => kp' b o h1 h2 ((Heap.get?_update_other _ _ (Ne.symm h2)).trans (kp b o h1 e))
  | false =>
   simp only [Bool.false_eq_true, if_false]
   refine wpAny_bind (wpAny_letGo ?_)
   rw [nm]
   refine wpAny_pure ⟨plainId_quiet F.plain_min_loop _, ih (j + 1) _ best c (by omega) more sx' (by simp only [argBest, hb, Bool.false_eq_true, if_false]; exact ab) eB' fun v' g' t'' av' kp' => ?_⟩
   exact fin v' g' t'' av' fun b o h1 h2 e => kp' b o h1 h2 (kp b o h1 e)
theorem zhI (d : Value) (Z : Walks prog w A.in1 J fo wo len At Sx) (bt : Nat → Nat → Bool) (cm : CmpOf prog w A.in1 .Lt At bt) (B : Addr) (nB : B ∉ fo) {s : Shared} {c : Nat} (sx : Sx 0 s.heap)
 (eB : s.heap.get? B = some { cls := .type "list", dict := none, data := .seq #[] c, slots := #[] })
 (fin : ∀ v g t', (len = 0 → v = d) → (0 < len → At (argBest bt (len - 1)) v) → (∀ b o, b ∉ wo → b ≠ B → s.heap.get? b = some o → g.get? b = some o) → R (.ok (.ret v)) { s with heap := g, toks := t' }) :
 codeAny (model prog w) A (.builtin "min.loop" ⟨[.ref J, .none, .ref B], [("default", d)]⟩) R s := by
 have nW : B ∉ wo := fun z => nB (Z.sub _ z)
 have nm : (toString "min" ++ toString ".loop" : String) = "min.loop" := by decide
 refine codeAny_builtin F.entry_min_loop ?_
 rw [Around.under_plainId F.plain_min_loop _]
 show wpAny _ _ (seqItems? (.ref B) >>= _) _ _ _
 refine wpAny_bind (wpAny_seqItems eB rfl ?_)
 show wpAny _ _ (tryCatch (pyNext (.ref J)) _ >>= _) _ _ _
 by_cases hl : len = 0
 · refine wpAny_bind (wpAny_tryCatch (Z.done s _ _ (hl ▸ sx) fun g t' kp => ?_))
   refine wpAny_bind (wpAny_rule (wpAny_pure ?_))
   exact fin d g t' (fun _ => rfl) (fun z => by omega) fun b o h1 _ e => kp b o h1 e
 · refine wpAny_bind (wpAny_tryCatch (Z.item 0 s _ _ (by omega) sx fun v g t' av sx' kp => ?_))
   have eB' := kp B _ nW eB
   show wpAny _ _ (updateSeq B (fun _ => #[v, v]) >>= _) _ _ _
   refine wpAny_bind ?_
   refine wpAny_updateSeq eB' rfl ?_
   rw [nm]
   refine wpAny_pure ⟨plainId_quiet F.plain_min_loop _, ziG [("default", d)] Z bt cm B nB _ 0 _ v _ rfl (by omega) (Z.frame _ _ _ sx' fun b h1 o e => ?_) av (Heap.get?_update_self _ eB' rfl) fun v' g' t'' av' kp' => ?_⟩
   · exact (Heap.get?_update_other _ _ (fun z : B = b => nB (by rw [z]; exact h1))).trans e
   · exact fin v' g' t'' (fun z => by omega) (fun _ => av') fun b o h1 h2 e => kp' b o h1 h2 ((Heap.get?_update_other _ _ (Ne.symm h2)).trans (kp b o h1 e))
theorem zhJ (a d : Value) : argsOk "min" ⟨[a], [("default", d)]⟩ := by unfold argsOk; kernel_rfl
theorem zgL {E : Value → Shared → Prop} {s : Shared} {a : Addr} {its : Array Value} {d : Value} {Q : Value → Shared → Prop} (hh : A.handled = none) (hl : s.heap.IsList a its) (bt : Nat → Nat → Bool)
 (cm : CmpOf prog w A.in1 .Lt (fun i v => its[i]? = some v) bt)
 (fin : ∀ v g t', (its.size = 0 → v = d) → (0 < its.size → its[argBest bt (its.size - 1)]? = some v) → (∀ b o, s.heap.get? b = some o → g.get? b = some o) → Q v { s with heap := g, toks := t' }) :
 wpAny (model prog w) A (call (.builtin "min") [.ref a] [("default", d)]) Q E s := by
 have nm : (toString "min" ++ toString ".loop" : String) = "min.loop" := by decide
 refine wpAny_call (codeAny_call_builtin F.plain_min F.entry_min ?_)
 have body : wpAny (model prog w) A.in1 (Builtin.«min» ⟨[.ref a], [("default", d)]⟩) (fun fin s' => match fin with
  | .done f => (match (Except.ok f : Result) with | .ok (.ret v) => Q v s' | .ok _ => False | .error e => E e s')
  | .again c' => c'.quiet = true ∧ codeAny (model prog w) A c' (fun r s' => match r with | .ok (.ret v) => Q v s' | .ok _ => False | .error e => E e s') s') E s := by
  show wpAny _ A.in1 (Builtin.Builtins.bindParams "min" ["key", "default"] 0 ⟨[], [("default", d)]⟩ >>= _) _ _ s
  refine wpAny_bind (wpAny_of_eq (show Builtin.Builtins.bindParams "min" ["key", "default"] 0 ⟨[], [("default", d)]⟩ = pure [none, some d] from rfl) ?_)
  refine wpAny_bind (wpAny_pure ?_)
  refine wpAny_bind (wpAny_pyIter_list hl ?_)
  refine wpAny_bind (wpAny_newObj_type ?_)
  rw [nm]
  obtain ⟨o, ho, _⟩ := id hl
  have lt := Heap.lt_size ho
  have sz : (s.heap.push { cls := .type "list_iterator", data := .fields #[.ref a, .int 0 0] }).objs.size = s.heap.objs.size + 1 := Heap.size_push _ _
  have kp : ∀ b o', s.heap.get? b = some o' → ((s.heap.push { cls := .type "list_iterator", data := .fields #[.ref a, .int 0 0] }).push { cls := .type "list", dict := none, data := .seq ([] : List Value).toArray }).get? b = some o' :=
   fun b o' e => Heap.get?_push_of_some _ (Heap.get?_push_of_some _ e)
  refine wpAny_pure ⟨plainId_quiet F.plain_min_loop _, zhI d (Walks.list (A := A.in1) hh s.heap.objs.size a (Nat.ne_of_lt lt) its) bt cm _ ?_
   ⟨⟨_, Heap.get?_push_of_some _ (Heap.get?_push_size _ rfl), rfl, rfl⟩, hl.at fun o' e => kp a o' e⟩ (Heap.get?_push_size _ rfl) fun v g t' h1 h2 h3 => ?_⟩
  · show (s.heap.push _).objs.size ∉ [s.heap.objs.size, a]
    rw [sz]
    intro z
    rcases List.mem_cons.mp z with z | z
    · exact Nat.succ_ne_self _ z
    · have z' := List.mem_singleton.mp z
      rw [← z'] at lt
      exact absurd lt (Nat.not_lt.mpr (Nat.le_succ _))
  · refine fin v g t' h1 h2 fun b o' e => h3 b o' ?_ ?_ (kp b o' e)
    · intro z
      exact absurd (List.mem_singleton.mp z) (Nat.ne_of_lt (Heap.lt_size e))
    · have := Heap.lt_size e
      show b ≠ (s.heap.push _).objs.size
      rw [sz]
      exact Nat.ne_of_lt (Nat.lt_succ_of_lt this)
 simp only [checkBuiltinCall, F.kind_min]
 cases hsig : Manifest.signature? "min" with
 | none => exact wpAny_pure body
 | some sig =>
  have ha' : Bind.checkArgs "min" sig ⟨[.ref a], [("default", d)]⟩ = pure () := by
   have := zhJ (.ref a) d
   simpa only [argsOk, hsig] using this
  simp only [ha']
  exact wpAny_pure body
end
def zex (lt : Int → Int → Bool) : Int → List Int → Int
 | b, [] => b
 | b, x :: r => zex lt (if lt x b then x else b) r
theorem zcG (lt : Int → Int → Bool) (ns : List Int) (d0 : Int) : ∀ k, k < ns.length →
 ns.getD (argBest (fun i j => lt (ns.getD i d0) (ns.getD j d0)) k) d0 = zex lt (ns.getD 0 d0) ((ns.drop 1).take k) ∧ argBest (fun i j => lt (ns.getD i d0) (ns.getD j d0)) k < ns.length := by
 have snoc : ∀ (l : List Int) (b x : Int), zex lt b (l ++ [x]) = if lt x (zex lt b l) then x else zex lt b l := by
  intro l
  induction l with
  | nil => intro b x; rfl
  | cons y r ih => intro b x; exact ih _ x
 intro k
 induction k with
 | zero => intro h; exact ⟨rfl, h⟩
 | succ k ih =>
  intro h
  obtain ⟨i1, i2⟩ := ih (by omega)
  have e : (ns.drop 1).take (k + 1) = (ns.drop 1).take k ++ [ns.getD (k + 1) d0] := by
   rw [List.take_succ, List.getElem?_drop, List.getElem?_eq_getElem (by omega)]
   have : (1 + k) = k + 1 := by omega
   simp [this, List.getD_eq_getElem?_getD, List.getElem?_eq_getElem h]
  rw [e, snoc, ← i1]
  show ns.getD (if lt (ns.getD (k + 1) d0) (ns.getD (argBest _ k) d0) = true then k + 1 else argBest _ k) d0 = _ ∧ (if lt (ns.getD (k + 1) d0) (ns.getD (argBest _ k) d0) = true then k + 1 else argBest _ k) < _
  by_cases hb : lt (ns.getD (k + 1) d0) (ns.getD (argBest (fun i j => lt (ns.getD i d0) (ns.getD j d0)) k) d0) = true
  · rw [if_pos hb, if_pos hb]; exact ⟨rfl, h⟩
  · rw [if_neg hb, if_neg hb]; exact ⟨rfl, i2⟩
def zjY (lt : Int → Int → Bool) (ns : List Int) (d : V) : V := match ns with
 | [] => d
 | x :: r => .int (zex lt x r)
theorem zbf {ns : List Int} {its : List Value} (r : Vals (ns.map V.int) its) {i : Nat} {v : Value} (h : its.toArray[i]? = some v) : ∃ t, v = Value.int (ns.getD i 0) t := by
 have hi : its[i]? = some v := by simpa using h
 have hl : i < its.length := (List.getElem?_eq_some_iff.mp hi).1
 have ll := r.length
 rw [List.length_map] at ll
 have e : (ns.map V.int)[i]? = some (.int (ns.getD i 0)) := by
  rw [List.getElem?_map, List.getElem?_eq_getElem (by omega), List.getD_eq_getElem?_getD, List.getElem?_eq_getElem (by omega)]
  rfl
 obtain ⟨u, h1, h2⟩ := Vals.get r e
 rw [hi] at h1
 cases h1
 exact h2
section
variable {X : Cx}
def zjn (X : Cx) (f : Value) (ks : List Str) (r : List V → List V → Hp → VK → Prop) : Prop :=
 ∀ (pins : List (Addr × Obj)) (s : Shared) (σ : St) (H : Hp) (xs zs : List V) (us ws : List Value) (Q : VK), Inv X pins σ H s → Vals xs us → Vals zs ws → r xs zs H Q → wpAny (model X.prog X.w) X.A (call f us (ks.zip ws)) (EP X pins σ Q) X.xe s
def tCBK (r : List V → List V → Hp → VK → Prop) (t tk : TA) : TE := fun σ H Q => t σ H fun vs H1 => tk σ H1 fun zs H2 => r vs zs H2 Q
theorem zfu {x : Str} {id : String} {ks : List Str} {r : List V → List V → Hp → VK → Prop} {e : Expr} {es : List Expr} {kws : List Keyword} {t tk : TA} {p pos : Pos} (hc : zjn X (.builtin id) ks r) (hg : Gl X x) (hm : X.mg x = none) (hv : bootBuiltins x = some (.builtin id)) (ha : PA X (e :: es) t) (hkw : PK X kws tk)
 (hks : (backToKw pos (keywordEach kws X.env)).filterMap (·.1) = ks := by rfl) (hn : x ≠ "__name__" := by decide) (hdb : (x == ("__debug__" : Str)) = false := by decide)
 (he : backTo pos (starEach (e :: es) X.env) = (false, eval e X.env) :: backTo pos (starEach es X.env) := by rfl) (hpl : (backTo pos (starEach (e :: es) X.env)).any (·.1) = false := by rfl)
 (hall : (backToKw pos (keywordEach kws X.env)).all (·.1.isSome) = true := by rfl) (hkn : (backToKw pos (keywordEach kws X.env)).any (·.1.isNone) = false := by rfl) :
 PE X (.Call (.Name x p) (e :: es) kws pos) (tCBK r t tk) := by
 intro pins s σ H Q I h
 refine wpAny_Call_Name_kw (zcY I hg hm hv ?_ hn hdb)
 refine callWith_kw (thn (ha pos pins s σ H _ I h) fun us s1 ⟨vs, H1, I1, r1, q1⟩ => ?_) he hpl hall hkn
 refine thn (hkw pos pins s1 σ H1 _ I1 q1) fun ws s2 ⟨zs, H2, I2, r2, q2⟩ => ?_
 rw [hks]
 exact hc pins s2 σ H2 vs zs us ws Q I2 r1 r2 q2
theorem zjg (hc : X.calm = true) : zjn X (.builtin "max") ["default"] (fun xs zs H Q => ∃ a ns d, xs = [.ref a] ∧ zs = [d] ∧ SqL X.K H a (ns.map V.int) ∧ Q (zjY (fun i j => decide (j < i)) ns d) H) := by
 intro pins s σ H xs zs us ws Q I r1 r2 h
 obtain ⟨a, ns, d, rfl, rfl, hq, q⟩ := h
 obtain ⟨u, rfl, ru⟩ := zc3 r1
 obtain ⟨z, rfl, rz⟩ := zc3 r2
 cases ru
 obtain ⟨its, rv, p, _⟩ := I.list hq
 have ll := rv.length
 rw [List.length_map] at ll
 refine zgM (I.ok.hd hc) p.isList (fun i j => decide (ns.getD j 0 < ns.getD i 0)) (fun i j vi vj s' Q' E' hi hj q' => ?_) fun v g t' h1 h2 h3 => ?_
 · obtain ⟨t1, rfl⟩ := zbf rv hi
   obtain ⟨t2, rfl⟩ := zbf rv hj
   exact gt_int q'
 · refine ⟨_, H, I.kept h3, ?_, q⟩
   cases ns with
   | nil =>
    have e : its.toArray.size = 0 := by simp; simpa using ll.symm
    rw [h1 e]
    exact rz
   | cons x rr =>
    simp only [List.length_cons] at ll
    have e : 0 < its.toArray.size := by simp; omega
    have hv := h2 e
    obtain ⟨t, rfl⟩ := zbf rv hv
    have ee : its.toArray.size - 1 = rr.length := by simp; omega
    rw [ee]
    have := (zcG (fun i j => decide (j < i)) (x :: rr) 0 rr.length (by simp)).1
    have e2 : ((x :: rr).drop 1).take rr.length = rr := by simp
    rw [e2] at this
    refine ⟨t, ?_⟩
    rw [this]
    rfl
theorem zjf (hc : X.calm = true) : zjn X (.builtin "min") ["default"] (fun xs zs H Q => ∃ a ns d, xs = [.ref a] ∧ zs = [d] ∧ SqL X.K H a (ns.map V.int) ∧ Q (zjY (fun i j => decide (i < j)) ns d) H) := by
 intro pins s σ H xs zs us ws Q I r1 r2 h
 obtain ⟨a, ns, d, rfl, rfl, hq, q⟩ := h
 obtain ⟨u, rfl, ru⟩ := zc3 r1
 obtain ⟨z, rfl, rz⟩ := zc3 r2
 cases ru
 obtain ⟨its, rv, p, _⟩ := I.list hq
 have ll := rv.length
 rw [List.length_map] at ll
 refine zgL (I.ok.hd hc) p.isList (fun i j => decide (ns.getD i 0 < ns.getD j 0)) (fun i j vi vj s' Q' E' hi hj q' => ?_) fun v g t' h1 h2 h3 => ?_
 · obtain ⟨t1, rfl⟩ := zbf rv hi
   obtain ⟨t2, rfl⟩ := zbf rv hj
   exact lt_int q'
 · refine ⟨_, H, I.kept h3, ?_, q⟩
   cases ns with
   | nil =>
    have e : its.toArray.size = 0 := by simp; simpa using ll.symm
    rw [h1 e]
    exact rz
   | cons x rr =>
    simp only [List.length_cons] at ll
    have e : 0 < its.toArray.size := by simp; omega
    have hv := h2 e
    obtain ⟨t, rfl⟩ := zbf rv hv
    have ee : its.toArray.size - 1 = rr.length := by simp; omega
    rw [ee]
    have := (zcG (fun i j => decide (i < j)) (x :: rr) 0 rr.length (by simp)).1
    have e2 : ((x :: rr).drop 1).take rr.length = rr := by simp
    rw [e2] at this
    refine ⟨t, ?_⟩
    rw [this]
    rfl
end
section
variable {X : Cx} {pins : List (Addr × Obj)} {σ : St} {H : Hp} {s : Shared}
theorem zdB (I : Inv X pins σ H s) (A : Around) (d e : PD) (v w : V) (u y : Value) (h : Rep X.K H d v) (h' : Rep X.K H e w) (r : RelV v u) (r' : RelV w y) (z : A.units + zb4 d < cLine) : SeqAt.RcAt A s u y (pyEq d e) := by
 cases d with
 | non =>
  rw [Rep] at h; subst h; cases r
  cases e with
  | non =>
   rw [Rep] at h'
   subst h'; cases r'
   rw [pyEq]; exact SeqAt.RcAt.none_none
  | bl b =>
   rw [Rep] at h'
   subst h'; cases r'
   exact SeqAt.RcAt.none_bool b
  | int b =>
   rw [Rep] at h'
   subst h'; obtain ⟨t, rfl⟩ := r'
   exact SeqAt.RcAt.none_int b t
  | str b =>
   rw [Rep] at h'
   subst h'; obtain ⟨t, rfl⟩ := r'
   exact SeqAt.RcAt.none_str b t
  | lst es =>
   rw [Rep] at h'
   obtain ⟨b, ys, rfl, q', qs'⟩ := h'; cases r'
   obtain ⟨its', rv', p', _⟩ := I.list q'
   exact SeqAt.RcAt.none_list p'.isList (by omega)
  | tup es =>
   rw [Rep] at h'
   obtain ⟨b, ys, rfl, q', qs'⟩ := h'; cases r'
   obtain ⟨its', rv', p', _⟩ := I.tuple q'
   exact SeqAt.RcAt.none_tuple p' (by omega)
 | bl c =>
  rw [Rep] at h; subst h; cases r
  cases e with
  | non =>
   rw [Rep] at h'
   subst h'; cases r'
   exact SeqAt.RcAt.bool_none c
  | bl b =>
   rw [Rep] at h'
   subst h'; cases r'
   exact SeqAt.RcAt.bool_bool c b
  | int b =>
   rw [Rep] at h'
   subst h'; obtain ⟨t, rfl⟩ := r'
   exact SeqAt.RcAt.bool_int c b t
  | str b =>
   rw [Rep] at h'
   subst h'; obtain ⟨t, rfl⟩ := r'
   exact SeqAt.RcAt.bool_str c b t
  | lst es =>
   rw [Rep] at h'
   obtain ⟨b, ys, rfl, q', qs'⟩ := h'; cases r'
   obtain ⟨its', rv', p', _⟩ := I.list q'
   exact SeqAt.RcAt.bool_list c p'.isList (by omega)
  | tup es =>
   rw [Rep] at h'
   obtain ⟨b, ys, rfl, q', qs'⟩ := h'; cases r'
   obtain ⟨its', rv', p', _⟩ := I.tuple q'
   exact SeqAt.RcAt.bool_tuple c p' (by omega)
 | int c =>
  rw [Rep] at h; subst h; obtain ⟨tc, rfl⟩ := r
  cases e with
  | non =>
   rw [Rep] at h'
   subst h'; cases r'
   exact SeqAt.RcAt.int_none c tc
  | bl b =>
   rw [Rep] at h'
   subst h'; cases r'
   exact SeqAt.RcAt.int_bool c tc b
  | int b =>
   rw [Rep] at h'
   subst h'; obtain ⟨t, rfl⟩ := r'
   exact SeqAt.RcAt.int_int c tc b t
  | str b =>
   rw [Rep] at h'
   subst h'; obtain ⟨t, rfl⟩ := r'
   exact SeqAt.RcAt.int_str c tc b t
  | lst es =>
   rw [Rep] at h'
   obtain ⟨b, ys, rfl, q', qs'⟩ := h'; cases r'
   obtain ⟨its', rv', p', _⟩ := I.list q'
   exact SeqAt.RcAt.int_list c tc p'.isList (by omega)
  | tup es =>
   rw [Rep] at h'
   obtain ⟨b, ys, rfl, q', qs'⟩ := h'; cases r'
   obtain ⟨its', rv', p', _⟩ := I.tuple q'
   exact SeqAt.RcAt.int_tuple c tc p' (by omega)
 | str c =>
  rw [Rep] at h; subst h; obtain ⟨tc, rfl⟩ := r
  cases e with
  | non =>
   rw [Rep] at h'
   subst h'; cases r'
   exact SeqAt.RcAt.str_none c tc
  | bl b =>
   rw [Rep] at h'
   subst h'; cases r'
   exact SeqAt.RcAt.str_bool c tc b
  | int b =>
   rw [Rep] at h'
   subst h'; obtain ⟨t, rfl⟩ := r'
   exact SeqAt.RcAt.str_int c tc b t
  | str b =>
   rw [Rep] at h'
   subst h'; obtain ⟨t, rfl⟩ := r'
   exact SeqAt.RcAt.str_str c tc b t
  | lst es =>
   rw [Rep] at h'
   obtain ⟨b, ys, rfl, q', qs'⟩ := h'; cases r'
   obtain ⟨its', rv', p', _⟩ := I.list q'
   exact SeqAt.RcAt.str_list c tc p'.isList (by omega)
  | tup es =>
   rw [Rep] at h'
   obtain ⟨b, ys, rfl, q', qs'⟩ := h'; cases r'
   obtain ⟨its', rv', p', _⟩ := I.tuple q'
   exact SeqAt.RcAt.str_tuple c tc p' (by omega)
 | lst ds =>
  rw [Rep] at h; obtain ⟨a, xs, rfl, q, qs⟩ := h; cases r
  obtain ⟨its, rv, p, _⟩ := I.list q
  cases e with
  | non =>
   rw [Rep] at h'
   subst h'; cases r'
   exact SeqAt.RcAt.list_none p.isList (by omega)
  | bl b =>
   rw [Rep] at h'
   subst h'; cases r'
   exact SeqAt.RcAt.list_bool b p.isList (by omega)
  | int b =>
   rw [Rep] at h'
   subst h'; obtain ⟨t, rfl⟩ := r'
   exact SeqAt.RcAt.list_int b t p.isList (by omega)
  | str b =>
   rw [Rep] at h'
   subst h'; obtain ⟨t, rfl⟩ := r'
   exact SeqAt.RcAt.list_str b t p.isList (by omega)
  | lst es =>
   rw [Rep] at h'
   obtain ⟨b, ys, rfl, q', qs'⟩ := h'; cases r'
   obtain ⟨its', rv', p', _⟩ := I.list q'
   rw [pyEq]
   rw [zb4] at z
   have l1 := qs.length
   have l2 := qs'.length
   have l3 := rv.length
   have l4 := rv'.length
   by_cases hl : ds.length = es.length
   · rw [← zaZ ds es hl]
     have := SeqAt.RcAt.lists (e := eqJ ds es) p.isList p'.isList (by simp; omega) (by omega) (fun j h1 h2 => ?_) (A := A)
     · simp only [List.size_toArray] at this
       rw [show ds.length = its.length by omega]
       exact this
     · have := zbJ I A.in1 ds es xs ys its its' qs qs' rv rv' (by rw [Around.in1_units]; omega) j (by simpa using h1) (by simpa using h2)
       simpa using this
   · rw [zbp hl]
     exact SeqAt.RcAt.lists_lengths p.isList p'.isList (by simp; omega) (by omega)
  | tup es =>
   rw [Rep] at h'
   obtain ⟨b, ys, rfl, q', qs'⟩ := h'; cases r'
   obtain ⟨its', rv', p', _⟩ := I.tuple q'
   exact SeqAt.RcAt.list_tuple p.isList p' (by omega)
 | tup ds =>
  rw [Rep] at h; obtain ⟨a, xs, rfl, q, qs⟩ := h; cases r
  obtain ⟨its, rv, p, _⟩ := I.tuple q
  cases e with
  | non =>
   rw [Rep] at h'
   subst h'; cases r'
   exact SeqAt.RcAt.tuple_none p (by omega)
  | bl b =>
   rw [Rep] at h'
   subst h'; cases r'
   exact SeqAt.RcAt.tuple_bool b p (by omega)
  | int b =>
   rw [Rep] at h'
   subst h'; obtain ⟨t, rfl⟩ := r'
   exact SeqAt.RcAt.tuple_int b t p (by omega)
  | str b =>
   rw [Rep] at h'
   subst h'; obtain ⟨t, rfl⟩ := r'
   exact SeqAt.RcAt.tuple_str b t p (by omega)
  | lst es =>
   rw [Rep] at h'
   obtain ⟨b, ys, rfl, q', qs'⟩ := h'; cases r'
   obtain ⟨its', rv', p', _⟩ := I.list q'
   exact SeqAt.RcAt.tuple_list p p'.isList (by omega)
  | tup es =>
   rw [Rep] at h'
   obtain ⟨b, ys, rfl, q', qs'⟩ := h'; cases r'
   obtain ⟨its', rv', p', _⟩ := I.tuple q'
   rw [pyEq]
   rw [zb4] at z
   have l1 := qs.length
   have l2 := qs'.length
   have l3 := rv.length
   have l4 := rv'.length
   have := SeqAt.RcAt.tuples (e := eqJ ds es) p p' (by omega) (fun j h1 h2 => ?_) (A := A)
   · simp only [List.size_toArray] at this
     by_cases hl : ds.length = es.length
     · rw [← zaZ ds es hl]
       rw [show min its.length its'.length = ds.length by omega, show (its.length == its'.length) = true by simp; omega, Bool.and_true] at this
       exact this
     · rw [zbp hl]
       rw [show (its.length == its'.length) = false by simp; omega, Bool.and_false] at this
       exact this
   · have := zbJ I A.in1 ds es xs ys its its' qs qs' rv rv' (by rw [Around.in1_units]; omega) j (by simpa using h1) (by simpa using h2)
     simpa using this
theorem zhB (I : Inv X pins σ H s) (A : Around) (d e : PD) (v w : V) (u y : Value) (h : Rep X.K H d v) (h' : Rep X.K H e w) (r : RelV v u) (r' : RelV w y) (z : A.units + zb4 d < cLine) : SeqAt.RcNeAt A s u y (!pyEq d e) := by
 cases d with
 | non =>
  rw [Rep] at h; subst h; cases r
  cases e with
  | non =>
   rw [Rep] at h'
   subst h'; cases r'
   rw [pyEq]; exact SeqAt.RcNeAt.none_none
  | bl b =>
   rw [Rep] at h'
   subst h'; cases r'
   exact SeqAt.RcNeAt.none_bool b
  | int b =>
   rw [Rep] at h'
   subst h'; obtain ⟨t, rfl⟩ := r'
   exact SeqAt.RcNeAt.none_int b t
  | str b =>
   rw [Rep] at h'
   subst h'; obtain ⟨t, rfl⟩ := r'
   exact SeqAt.RcNeAt.none_str b t
  | lst es =>
   rw [Rep] at h'
   obtain ⟨b, ys, rfl, q', qs'⟩ := h'; cases r'
   obtain ⟨its', rv', p', _⟩ := I.list q'
   exact SeqAt.RcNeAt.none_list p'.isList (by omega)
  | tup es =>
   rw [Rep] at h'
   obtain ⟨b, ys, rfl, q', qs'⟩ := h'; cases r'
   obtain ⟨its', rv', p', _⟩ := I.tuple q'
   exact SeqAt.RcNeAt.none_tuple p' (by omega)
 | bl c =>
  rw [Rep] at h; subst h; cases r
  cases e with
  | non =>
   rw [Rep] at h'
   subst h'; cases r'
   exact SeqAt.RcNeAt.bool_none c
  | bl b =>
   rw [Rep] at h'
   subst h'; cases r'
   exact SeqAt.RcNeAt.bool_bool c b
  | int b =>
   rw [Rep] at h'
   subst h'; obtain ⟨t, rfl⟩ := r'
   exact SeqAt.RcNeAt.bool_int c b t
  | str b =>
   rw [Rep] at h'
   subst h'; obtain ⟨t, rfl⟩ := r'
   exact SeqAt.RcNeAt.bool_str c b t
  | lst es =>
   rw [Rep] at h'
   obtain ⟨b, ys, rfl, q', qs'⟩ := h'; cases r'
   obtain ⟨its', rv', p', _⟩ := I.list q'
   exact SeqAt.RcNeAt.bool_list c p'.isList (by omega)
  | tup es =>
   rw [Rep] at h'
   obtain ⟨b, ys, rfl, q', qs'⟩ := h'; cases r'
   obtain ⟨its', rv', p', _⟩ := I.tuple q'
   exact SeqAt.RcNeAt.bool_tuple c p' (by omega)
 | int c =>
  rw [Rep] at h; subst h; obtain ⟨tc, rfl⟩ := r
  cases e with
  | non =>
   rw [Rep] at h'
   subst h'; cases r'
   exact SeqAt.RcNeAt.int_none c tc
  | bl b =>
   rw [Rep] at h'
   subst h'; cases r'
   exact SeqAt.RcNeAt.int_bool c tc b
  | int b =>
   rw [Rep] at h'
   subst h'; obtain ⟨t, rfl⟩ := r'
   exact SeqAt.RcNeAt.int_int c tc b t
  | str b =>
   rw [Rep] at h'
   subst h'; obtain ⟨t, rfl⟩ := r'
   exact SeqAt.RcNeAt.int_str c tc b t
  | lst es =>
   rw [Rep] at h'
   obtain ⟨b, ys, rfl, q', qs'⟩ := h'; cases r'
   obtain ⟨its', rv', p', _⟩ := I.list q'
   exact SeqAt.RcNeAt.int_list c tc p'.isList (by omega)
  | tup es =>
   rw [Rep] at h'
   obtain ⟨b, ys, rfl, q', qs'⟩ := h'; cases r'
   obtain ⟨its', rv', p', _⟩ := I.tuple q'
   exact SeqAt.RcNeAt.int_tuple c tc p' (by omega)
 | str c =>
  rw [Rep] at h; subst h; obtain ⟨tc, rfl⟩ := r
  cases e with
  | non =>
   rw [Rep] at h'
   subst h'; cases r'
   exact SeqAt.RcNeAt.str_none c tc
  | bl b =>
   rw [Rep] at h'
   subst h'; cases r'
   exact SeqAt.RcNeAt.str_bool c tc b
  | int b =>
   rw [Rep] at h'
   subst h'; obtain ⟨t, rfl⟩ := r'
   exact SeqAt.RcNeAt.str_int c tc b t
  | str b =>
   rw [Rep] at h'
   subst h'; obtain ⟨t, rfl⟩ := r'
   exact SeqAt.RcNeAt.str_str c tc b t
  | lst es =>
   rw [Rep] at h'
   obtain ⟨b, ys, rfl, q', qs'⟩ := h'; cases r'
   obtain ⟨its', rv', p', _⟩ := I.list q'
   exact SeqAt.RcNeAt.str_list c tc p'.isList (by omega)
  | tup es =>
   rw [Rep] at h'
   obtain ⟨b, ys, rfl, q', qs'⟩ := h'; cases r'
   obtain ⟨its', rv', p', _⟩ := I.tuple q'
   exact SeqAt.RcNeAt.str_tuple c tc p' (by omega)
 | lst ds =>
  rw [Rep] at h; obtain ⟨a, xs, rfl, q, qs⟩ := h; cases r
  obtain ⟨its, rv, p, _⟩ := I.list q
  cases e with
  | non =>
   rw [Rep] at h'
   subst h'; cases r'
   exact SeqAt.RcNeAt.list_none p.isList (by omega)
  | bl b =>
   rw [Rep] at h'
   subst h'; cases r'
   exact SeqAt.RcNeAt.list_bool b p.isList (by omega)
  | int b =>
   rw [Rep] at h'
   subst h'; obtain ⟨t, rfl⟩ := r'
   exact SeqAt.RcNeAt.list_int b t p.isList (by omega)
  | str b =>
   rw [Rep] at h'
   subst h'; obtain ⟨t, rfl⟩ := r'
   exact SeqAt.RcNeAt.list_str b t p.isList (by omega)
  | lst es =>
   rw [Rep] at h'
   obtain ⟨b, ys, rfl, q', qs'⟩ := h'; cases r'
   obtain ⟨its', rv', p', _⟩ := I.list q'
   rw [pyEq]
   rw [zb4] at z
   have l1 := qs.length
   have l2 := qs'.length
   have l3 := rv.length
   have l4 := rv'.length
   by_cases hl : ds.length = es.length
   · rw [← zaZ ds es hl]
     have := SeqAt.RcNeAt.lists (e := eqJ ds es) p.isList p'.isList (by simp; omega) (by omega) (fun j h1 h2 => ?_) (A := A)
     · simp only [List.size_toArray] at this
       rw [show ds.length = its.length by omega]
       exact this
     · have := zbJ I A.in1 ds es xs ys its its' qs qs' rv rv' (by rw [Around.in1_units]; omega) j (by simpa using h1) (by simpa using h2)
       simpa using this
   · rw [zbp hl]
     exact SeqAt.RcNeAt.lists_lengths p.isList p'.isList (by simp; omega) (by omega)
  | tup es =>
   rw [Rep] at h'
   obtain ⟨b, ys, rfl, q', qs'⟩ := h'; cases r'
   obtain ⟨its', rv', p', _⟩ := I.tuple q'
   exact SeqAt.RcNeAt.list_tuple p.isList p' (by omega)
 | tup ds =>
  rw [Rep] at h; obtain ⟨a, xs, rfl, q, qs⟩ := h; cases r
  obtain ⟨its, rv, p, _⟩ := I.tuple q
  cases e with
  | non =>
   rw [Rep] at h'
   subst h'; cases r'
   exact SeqAt.RcNeAt.tuple_none p (by omega)
  | bl b =>
   rw [Rep] at h'
   subst h'; cases r'
   exact SeqAt.RcNeAt.tuple_bool b p (by omega)
  | int b =>
   rw [Rep] at h'
   subst h'; obtain ⟨t, rfl⟩ := r'
   exact SeqAt.RcNeAt.tuple_int b t p (by omega)
  | str b =>
   rw [Rep] at h'
   subst h'; obtain ⟨t, rfl⟩ := r'
   exact SeqAt.RcNeAt.tuple_str b t p (by omega)
  | lst es =>
   rw [Rep] at h'
   obtain ⟨b, ys, rfl, q', qs'⟩ := h'; cases r'
   obtain ⟨its', rv', p', _⟩ := I.list q'
   exact SeqAt.RcNeAt.tuple_list p p'.isList (by omega)
  | tup es =>
   rw [Rep] at h'
   obtain ⟨b, ys, rfl, q', qs'⟩ := h'; cases r'
   obtain ⟨its', rv', p', _⟩ := I.tuple q'
   rw [pyEq]
   rw [zb4] at z
   have l1 := qs.length
   have l2 := qs'.length
   have l3 := rv.length
   have l4 := rv'.length
   have := SeqAt.RcNeAt.tuples (e := eqJ ds es) p p' (by omega) (fun j h1 h2 => ?_) (A := A)
   · simp only [List.size_toArray] at this
     by_cases hl : ds.length = es.length
     · rw [← zaZ ds es hl]
       rw [show min its.length its'.length = ds.length by omega, show (its.length == its'.length) = true by simp; omega, Bool.and_true] at this
       exact this
     · rw [zbp hl]
       rw [show (its.length == its'.length) = false by simp; omega, Bool.and_false] at this
       exact this
   · have := zbJ I A.in1 ds es xs ys its its' qs qs' rv rv' (by rw [Around.in1_units]; omega) j (by simpa using h1) (by simpa using h2)
     simpa using this
end
def zhW (X : Cx) : Prop := X.A.units + 60 < cLine
section
variable {X : Cx}
def rNeD (K : PySem.W.Frag) : R2 := fun x y H Q => ∃ d e, Rep K H d x ∧ Rep K H e y ∧ zb4 d < 60 ∧ Q (.bl (!pyEq d e)) H
theorem zj9 (hr : zhW X) : OpR X (compareOp .NotEq) (rNeD X.K) := by
 intro pins s σ H x y v u Q I rx ry h
 obtain ⟨d, e, h1, h2, h3, q⟩ := h
 unfold zhW at hr
 exact zhB I X.A d e x y v u h1 h2 rx ry (by omega) X.prog X.w _ _ ⟨.bl _, H, I, rfl, q⟩
theorem zcR {A : Around} {k : Nat} (hr : Room k A) : A.units + 60 < cLine := Nat.lt_of_le_of_lt (Nat.add_le_add_left (by decide : 60 ≤ 64) _) hr.units
theorem zas {n : String} : zdg X (.builtin "isinstance") (fun xs H Q => ∃ x t c b, xs = [x, .ty c] ∧ TyOf X.K H x (.type t) ∧ PySem.W.kitOne X.K (.type t) (.type c) = some b ∧ Q (.bl b) H) := by
 intro pins s σ H xs us Q I r h
 obtain ⟨x, t, c, b, rfl, ty, e, q⟩ := h
 obtain ⟨u, w', rfl, ru, rw'⟩ := zhu r
 cases rw'
 exact ziZ I ru ty e fun tk => ⟨.bl b, H, I.tok tk, rfl, q⟩
end
section
variable {prog : Program} {w : World} {A : Around} {E : Value → Shared → Prop}
end
section
variable {X : Cx}
end
section
variable {K : PySem.W.Frag} {a p : Addr} {xs : List V} {g : TG} {tc : TT} {te : TE} {σ : St} {H : Hp} {Q : VK}
abbrev zey (p : Addr) (g : TG) (tc : TT) (te : TE) (ys : List V) (x : V) (σ : St) (H : Hp) (N : St → List V → Hp → Prop) : Prop :=
 g x σ H fun σ2 H2 => tc σ2 H2 fun b H3 => if b = true then te σ2 H3 fun y H4 => H4 p = some (.lst ys) ∧ N σ2 (ys ++ [y]) (upd H4 p (.lst (ys ++ [y]))) else N σ2 ys H3
theorem zfD {n : Nat} {J : It} {js : Cap} (Pv : Nat → St → List V → Hp → Prop) (h0 : Pv 0 (inn js σ) [] (upd H p (.lst [])))
 (hl : ∀ i σ ys H, i ≤ n → Pv i σ ys H → H p = some (.lst ys) ∧ ys.length < sizeLine)
 (hgo : ∀ i σ ys H, i < n → Pv i σ ys H → J.go i H) (hst : ∀ σ ys H, Pv n σ ys H → J.stop n H)
 (hs : ∀ (i : Nat) x σ ys H H' (N : St → List V → Hp → Prop), i < n → J.yld i H x H' → Pv i σ ys H → (∀ σ' ys' H', Pv (i + 1) σ' ys' H' → N σ' ys' H') → zey p g tc te ys x σ H' N)
 (hd : ∀ σ ys H, Pv n σ ys H → Q (.ref p) H) :
 zcn J p js g tc te σ H Q := by
 refine ⟨fun i m σ ys H => m = n - i ∧ i ≤ n ∧ Pv i σ ys H, ⟨n, by simp, Nat.zero_le _, h0⟩, ?_⟩
 rintro i m σ ys H ⟨rfl, hi, pv⟩
 obtain ⟨q1, q2⟩ := hl i σ ys H hi pv
 refine ⟨q1, ?_⟩
 by_cases lt : i < n
 · exact .inr ⟨hgo i σ ys H lt pv, q2, fun x H' y => hs i x σ ys H H' (fun σ2 ys2 H2 => ∃ m', m' < n - i ∧ m' = n - (i + 1) ∧ i + 1 ≤ n ∧ Pv (i + 1) σ2 ys2 H2) lt y pv fun σ' ys' H' p' => ⟨n - (i + 1), by omega, rfl, lt, p'⟩⟩
 · have e : i = n := by omega
   subst e
   exact .inl ⟨hst σ ys H pv, hd σ ys H pv⟩
theorem zgO {js : Cap} (Pv : Nat → St → List V → Hp → Prop) (h0 : Pv 0 (inn js σ) [] (upd H p (.lst [])))
 (hl : ∀ i σ ys H, i ≤ xs.length → Pv i σ ys H → SqL K H a xs ∧ H p = some (.lst ys) ∧ ys.length < sizeLine)
 (hs : ∀ (i : Nat) x σ ys H (N : St → List V → Hp → Prop), xs[i]? = some x → Pv i σ ys H → (∀ σ' ys' H', Pv (i + 1) σ' ys' H' → N σ' ys' H') → zey p g tc te ys x σ H N)
 (hd : ∀ σ ys H, Pv xs.length σ ys H → Q (.ref p) H) : zcn (Itl K a) p js g tc te σ H Q :=
 zfD (n := xs.length) (J := Itl K a) (js := js) (σ := σ) (H := H) (p := p) (Q := Q) (g := g) (tc := tc) (te := te) Pv h0 (fun i σ ys H hi pv => (hl i σ ys H hi pv).2)
  (fun i σ ys H hi pv => ⟨xs, xs[i], (hl i σ ys H (Nat.le_of_lt hi) pv).1, by simp [hi]⟩) (fun σ ys H pv => ⟨xs, (hl _ σ ys H (Nat.le_refl _) pv).1, Nat.le_refl _⟩)
  (fun i x σ ys H H' N hi y pv hN => by
   obtain ⟨e, y⟩ := y
   subst e
   exact hs i x σ ys _ N (y xs (hl i σ ys _ (Nat.le_of_lt hi) pv).1) pv hN) hd
theorem zdk {js : Cap} (Pv : Nat → St → List V → Hp → Prop) (h0 : Pv 0 (inn js σ) [] (upd H p (.lst [])))
 (hl : ∀ i σ ys H, i ≤ xs.length → Pv i σ ys H → SqT K H a xs ∧ H p = some (.lst ys) ∧ ys.length < sizeLine)
 (hs : ∀ (i : Nat) x σ ys H (N : St → List V → Hp → Prop), xs[i]? = some x → Pv i σ ys H → (∀ σ' ys' H', Pv (i + 1) σ' ys' H' → N σ' ys' H') → zey p g tc te ys x σ H N)
 (hd : ∀ σ ys H, Pv xs.length σ ys H → Q (.ref p) H) : zcn (Itt K a) p js g tc te σ H Q :=
 zfD (n := xs.length) (J := Itt K a) (js := js) (σ := σ) (H := H) (p := p) (Q := Q) (g := g) (tc := tc) (te := te) Pv h0 (fun i σ ys H hi pv => (hl i σ ys H hi pv).2)
  (fun i σ ys H hi pv => ⟨xs, xs[i], (hl i σ ys H (Nat.le_of_lt hi) pv).1, by simp [hi]⟩) (fun σ ys H pv => ⟨xs, (hl _ σ ys H (Nat.le_refl _) pv).1, Nat.le_refl _⟩)
  (fun i x σ ys H H' N hi y pv hN => by
   obtain ⟨e, y⟩ := y
   subst e
   exact hs i x σ ys _ N (y xs (hl i σ ys _ (Nat.le_of_lt hi) pv).1) pv hN) hd
theorem zcZ {js : Cap} {lo : Int} {n : Nat} (Pv : Nat → St → List V → Hp → Prop) (h0 : Pv 0 (inn js σ) [] (upd H p (.lst [])))
 (hl : ∀ i σ ys H, i ≤ n → Pv i σ ys H → H p = some (.lst ys) ∧ ys.length < sizeLine)
 (hs : ∀ (i : Nat) σ ys H (N : St → List V → Hp → Prop), i < n → Pv i σ ys H → (∀ σ' ys' H', Pv (i + 1) σ' ys' H' → N σ' ys' H') → zey p g tc te ys (.int (lo + i)) σ H N)
 (hd : ∀ σ ys H, Pv n σ ys H → Q (.ref p) H) : zcn (Itr lo n) p js g tc te σ H Q :=
 zfD (n := n) (J := Itr lo n) (js := js) (σ := σ) (H := H) (p := p) (Q := Q) (g := g) (tc := tc) (te := te) Pv h0 hl
  (fun i σ ys H hi pv => hi) (fun σ ys H pv => Nat.le_refl n)
  (fun i x σ ys H H' N hi y pv hN => by
   obtain ⟨e, y⟩ := y
   subst e y
   exact hs i σ ys _ N hi pv hN) hd
end
def zhn (outer : Scope) (N N' : List Str) (js : Cap) (scope : Scope) : Bool :=
 decide (js.length = N'.length) && (scope.kind == .function) && scope.names.all (fun p => p.2 != .cell && (p.2 != .local || scope.names.lookup p.1 == some .local) && (p.2 != .free || (outer.names.lookup p.1 == some .cell || outer.names.lookup p.1 == some .free)))
  && (List.range js.length).all fun i => match js[i]? with
   | some (some j) => (match N'[i]? with | some x => N[j]? == some x && scope.names.lookup x == some .free | none => false)
   | _ => true
theorem zb5 {X : Cx} {N N' : List Str} {js : Cap} {scope outer : Scope} (h : zhn outer N N' js scope = true) (hN : X.N = N := by rfl) (ho : X.env.scope = outer := by rfl) : CapOk X N' js scope := by
 subst hN ho
 unfold zhn at h
 rw [Bool.and_eq_true, Bool.and_eq_true, Bool.and_eq_true] at h
 obtain ⟨⟨⟨h1, h2⟩, h3⟩, h4⟩ := h
 rw [List.all_eq_true] at h3 h4
 refine ⟨of_decide_eq_true h1, eq_of_beq h2, fun p hp e => ?_, fun p hp e => ?_, fun p hp e => ?_, fun i j e => ?_⟩
 · have := h3 p hp
   rw [e] at this
   simp at this
 · have := h3 p hp
   rw [e] at this
   simp at this
   exact this
 · have := h3 p hp
   rw [e] at this
   simp at this
   exact this
 · have hi : i < js.length := (List.getElem?_eq_some_iff.mp e).1
   have := h4 i (List.mem_range.mpr hi)
   rw [e] at this
   simp only at this
   cases q : N'[i]? with
   | none => rw [q] at this; cases this
   | some x =>
    rw [q] at this
    simp only [Bool.and_eq_true, beq_iff_eq] at this
    exact ⟨x, rfl, this.1, this.2⟩
def FnH (P : Program) (w : World) (K : PySem.W.Frag) (mg : Str → Option Value) (base : Heap) (k : Nat) (x : Str) (ps : List Str) (sp : Sp) : Prop :=
 ∃ f fd, FnOk P w K mg base CX0 k f fd ps sp ∧ Binds K fd ps [] ∧ PySem.W.keepIn K (.ref f) = true ∧ mg x = some (.ref f)
section
variable {X : Cx} {k : Nat} {x : Str} {ps : List Str} {sp : Sp} {e : Expr} {es : List Expr} {t : TA} {p pos : Pos}
theorem zao (F : FnH X.prog X.w X.K X.mg X.base k x ps sp) (hr : Room k X.A) (hg : Gl X x) (ha : PA X (e :: es) t) (hdb : (x == ("__debug__" : Str)) = false := by decide)
 (he : starEach (e :: es) X.env = (false, eval e X.env) :: starEach es X.env := by rfl) (hpl : (backTo pos (starEach es X.env)).any (·.1) = false := by rfl) : PE X (.Call (.Name x p) (e :: es) [] pos) (zkt sp [] E0 t) := by
 obtain ⟨f, fd, h1, h2, h3, h4⟩ := F
 exact ziv h1 hr hg h4 h3 h2 .nil zmm ha hdb he hpl
end
structure Bl (mg : Str → Option Value) : Prop where
 len_ : mg "len" = none
 range_ : mg "range" = none
 isinstance_ : mg "isinstance" = none
 int_ : mg "int" = none
 bool_ : mg "bool" = none
 tuple_ : mg "tuple" = none
 list_ : mg "list" = none
 max_ : mg "max" = none
 min_ : mg "min" = none
 all_ : mg "all" = none
 zip_ : mg "zip" = none
 str_ : mg "str" = none
 dict_ : mg "dict" = none
 sorted_ : mg "sorted" = none
 set_ : mg "set" = none
 any_ : mg "any" = none
 sum_ : mg "sum" = none
 enumerate_ : mg "enumerate" = none
 repr_ : mg "repr" = none
 ord_ : mg "ord" = none
 chr_ : mg "chr" = none
 abs_ : mg "abs" = none
 reversed_ : mg "reversed" = none
theorem zho : bootBuiltins "int" = some (.type "int") := by decide +kernel
theorem zgY : bootBuiltins "bool" = some (.type "bool") := by decide +kernel
theorem zbc : bootBuiltins "tuple" = some (.type "tuple") := by decide +kernel
theorem zfb : bootBuiltins "list" = some (.type "list") := by decide +kernel
theorem zea : bootBuiltins "str" = some (.type "str") := by decide +kernel
theorem zlY : bootBuiltins "set" = some (.type "set") := by decide +kernel
theorem zal : bootBuiltins "isinstance" = some (.builtin "isinstance") := by decide +kernel
theorem zc2 : bootBuiltins "len" = some (.builtin "len") := by decide +kernel
theorem zjk : bootBuiltins "max" = some (.builtin "max") := by decide +kernel
theorem zjj : bootBuiltins "min" = some (.builtin "min") := by decide +kernel
theorem zew : bootBuiltins "all" = some (.builtin "all") := by decide +kernel
theorem zji : bootBuiltins "sorted" = some (.builtin "sorted") := by decide +kernel
theorem zgd {n : Nat} (h : n ≤ 1000) : n ≤ sizeLine := Nat.le_of_lt (zap h)
theorem zae {H : Hp} {p : Addr} (h : H p = none) (o : HO) : Same H (upd H p o) := fun b u q => by rw [zak (zar q h)]; exact q
def eV : Option Int → V
 | none => .non
 | some i => .int i
theorem zfF (o : Option Int) : (!decide (eV o = V.non)) = o.isSome := by
 cases o with
 | none => rfl
 | some i => rfl
def bigM : Int := 618970019642690137449562111
structure Bag (H : Hp) (b g l : Addr) (n : Int) : Prop where
 ex : ∃ (gs ls : List Int) (c st : Int), H b = some (.lst [.ref g, .ref l, .int c, .int st]) ∧ H g = some (.lst (gs.map V.int)) ∧ H l = some (.lst (ls.map V.int)) ∧
  gs.length ≤ 63 ∧ 0 < ls.length ∧ ls.length ≤ 64 ∧ (∀ x ∈ ls, 0 ≤ x ∧ x < 10 ^ 18) ∧ 0 ≤ c ∧ c ≤ n ∧ 0 ≤ st ∧ st < bigM
 gl : g ≠ l
def SameB (b g : Addr) (H H' : Hp) : Prop := ∀ a o, H a = some o → a ≠ b → a ≠ g → H' a = some o
theorem Bag.bg {H : Hp} {b g l : Addr} {n : Int} (B : Bag H b g l n) : b ≠ g := by
 obtain ⟨gs, ls, c, st, h1, h2, _⟩ := B.ex
 intro e
 rw [e, h2] at h1
 cases gs with
 | nil => cases h1
 | cons x r => injection h1 with h1; injection h1 with h1; injection h1 with h1 _; cases h1
theorem Bag.bl {H : Hp} {b g l : Addr} {n : Int} (B : Bag H b g l n) : b ≠ l := by
 obtain ⟨gs, ls, c, st, h1, h2, h3, _⟩ := B.ex
 intro e
 rw [e, h3] at h1
 cases ls with
 | nil => cases h1
 | cons x r => injection h1 with h1; injection h1 with h1; injection h1 with h1 _; cases h1
theorem Bag.mono {H : Hp} {b g l : Addr} {n m : Int} (B : Bag H b g l n) (h : n ≤ m) : Bag H b g l m := by
 obtain ⟨⟨gs, ls, c, st, h1, h2, h3, h4, h5, h6, h7, h8, h9, h10⟩, gl⟩ := B
 exact ⟨⟨gs, ls, c, st, h1, h2, h3, h4, h5, h6, h7, h8, Int.le_trans h9 h, h10⟩, gl⟩
theorem Bag.same {H H' : Hp} {b g l : Addr} {n : Int} (B : Bag H b g l n) (h : Same H H') : Bag H' b g l n := by
 obtain ⟨⟨gs, ls, c, st, h1, h2, h3, h4⟩, gl⟩ := B
 exact ⟨⟨gs, ls, c, st, h _ _ h1, h _ _ h2, h _ _ h3, h4⟩, gl⟩
theorem SameB.refl (b g : Addr) (H : Hp) : SameB b g H H := fun _ _ h _ _ => h
theorem SameB.trans {b g : Addr} {H H1 H2 : Hp} (x : SameB b g H H1) (y : SameB b g H1 H2) : SameB b g H H2 := fun a o h n1 n2 => y a o (x a o h n1 n2) n1 n2
theorem Same.sameB {b g : Addr} {H H1 : Hp} (x : Same H H1) : SameB b g H H1 := fun a o h _ _ => x a o h
theorem SameB.tup {b g l : Addr} {n : Int} {H H' : Hp} (B : Bag H b g l n) (s : SameB b g H H') {a : Addr} {xs : List V} (h : H a = some (.tup xs)) : H' a = some (.tup xs) := by
 obtain ⟨gs, ls, c, st, h1, h2, _⟩ := B.ex
 exact s a _ h (zhH h h1 (by intro z; cases z)) (zhH h h2 (by intro z; cases z))
theorem Bag.free {H : Hp} {b g l : Addr} {n : Int} (B : Bag H b g l n) {p : Addr} (h : H p = none) : p ≠ b ∧ p ≠ g ∧ p ≠ l := by
 obtain ⟨gs, ls, c, st, h1, h2, h3, _⟩ := B.ex
 exact ⟨(zar h1 h).symm, (zar h2 h).symm, (zar h3 h).symm⟩
theorem zhs {c : TT} {tb u : TS} {D : Ends} {σ : St} {H : Hp} (W : Nat → St → Hp → Prop) (M : St → Hp → Prop) (h0 : ∃ m, W m σ H)
 (hs : ∀ (m : Nat) σ H (Z : St → Hp → Prop), W m σ H → (∀ σ' H', M σ' H' → Z σ' H') → c σ H fun b H1 => if b = true then ∃ N : St → Hp → Prop, (∀ σ' H', N σ' H' → ∃ m', m' < m ∧ W m' σ' H') ∧ tb { nx := N, rt := D.rt, bk := Z, ct := N } σ H1 else Z σ H1)
 (hd : ∀ σ H, M σ H → u D σ H) : tSeq (zj1 c tb) u D σ H := ⟨W, h0, fun m σ H w => hs m σ H (u D) w hd⟩
theorem zg8 {K : PySem.W.Frag} {H : Hp} : ∀ ns : List Int, Reps K H (ns.map PD.int) (ns.map V.int)
 | [] => by show Reps K H [] []; rw [Reps]
 | n :: ns => by
  show Reps K H (.int n :: ns.map PD.int) (.int n :: ns.map V.int)
  rw [Reps]
  exact ⟨_, _, rfl, by rw [Rep], zg8 ns⟩
theorem zev : ∀ ns : List Int, zbS (ns.map PD.int) = 0
 | [] => by show zbS [] = 0; rw [zbS]
 | n :: ns => by
  show zbS (.int n :: ns.map PD.int) = 0
  rw [zbS, zev ns, zb4]
  all_goals simp
theorem zlE {K : PySem.W.Frag} {H : Hp} {a p : Addr} {ns : List Int} {Q : VK} (h : SqL K H a (ns.map V.int)) (hp : SqL K H p []) (q : Q (.bl (!ns.isEmpty)) H) : rNeD K (.ref a) (.ref p) H Q := by
 refine ⟨.lst (ns.map PD.int), .lst [], by rw [Rep]; exact ⟨a, _, rfl, h, zg8 ns⟩, by rw [Rep]; exact ⟨p, _, rfl, hp, by rw [Reps]⟩, by rw [zb4, zev]; decide, ?_⟩
 cases ns with
 | nil => rw [pyEq, show zcS (([] : List Int).map PD.int) [] = true from zcy []]; exact q
 | cons n ns => rw [pyEq, zbp (by simp)]; exact q
theorem at0 {α : Type} {x : α} {r : List α} : atI (x :: r) 0 = some x := zcb (j := 0) rfl
theorem ix0 {α : Type} {x : α} {r : List α} : ixN (x :: r).length 0 = some 0 := by
 unfold ixN
 rw [if_pos (by decide), if_pos (by rw [List.length_cons]; omega)]
 rfl
theorem zl4 {ls : List Int} {i : Int} (h0 : 0 ≤ i) (h1 : i < (ls.length : Int)) : ∃ v, atI (ls.map V.int) i = some (.int v) ∧ v ∈ ls := by
 obtain ⟨k, rfl⟩ := Int.eq_ofNat_of_zero_le h0
 have hk : k < ls.length := by omega
 exact ⟨ls[k], zcb (by rw [List.getElem?_map, List.getElem?_eq_getElem hk]; rfl), List.getElem_mem _⟩
theorem sz0 : (0 : Nat) ≤ sizeLine := Nat.zero_le _
def zib : Sp := fun vs H Q _ => ∃ (b g l : Addr) (n many : Int), vs = [.ref b, .int many] ∧ Bag H b g l n ∧ n ≤ 2 ^ 40 ∧ 0 < many ∧ many < 2 ^ 500 ∧
 ∀ (r : Int) (H' : Hp), 0 ≤ r → r < many → Bag H' b g l (n + 1) → SameB b g H H' → Q (.int r) H'
def zkx (K : PySem.W.Frag) : Sp := fun vs H Q _ => ∃ (a : Addr) (ns : List Int), vs = [.ref a] ∧ SqL K H a (ns.map V.int) ∧ ns.length ≤ 63 ∧
 ∀ (b g l : Addr) (H' : Hp), Bag H' b g l 0 → Same H H' → H b = none → H g = none → Q (.ref b) H'
theorem zaC {α : Type} {l : List α} {i : Nat} {x : α} (h : l[i]? = some x) : l.take (i + 1) = l.take i ++ [x] := by
 rw [List.take_succ, h]
 rfl
theorem ziM {K : PySem.W.Frag} {H : Hp} {a p : Addr} {Q : VK} {js : Cap} {σ cap : St} {tc : TT} {te : TE} (ns : List Int) (f : Int → Int) (c : Int → Bool) (hn : ns.length ≤ 900) (e : SqL K H a (ns.map V.int)) (hp : H p = none) (hσ : inn js σ = none :: cap)
 (ht : ∀ n H' (R : Bool → Hp → Prop), Same H H' → R (c n) H' → tc (some (.int n) :: cap) H' R) (he : ∀ n H' (R : VK), Same H H' → R (.int (f n)) H' → te (some (.int n) :: cap) H' R)
 (hq : ∀ H', Same H H' → H' p = some (.lst (((ns.filter c).map f).map V.int)) → Q (.ref p) H') : zcn (Itl K a) p js (zhS 0) tc te σ H Q := by
 have s0 := zae hp (.lst [])
 refine zgO (xs := ns.map V.int) (fun i σ' ys H' => (∃ v, σ' = v :: cap) ∧ Same H H' ∧ H' p = some (.lst ys) ∧ ys = ((((ns.take i).filter c).map f).map V.int)) ⟨⟨_, hσ⟩, s0, zab, rfl⟩ ?_ ?_ ?_
 · rintro i σ' ys H' hi ⟨_, s, h1, h2⟩
   refine ⟨s.seq e, h1, ?_⟩
   rw [h2]
   simp only [List.length_map]
   have := List.length_filter_le c (ns.take i)
   rw [List.length_take] at this
   exact zap (by omega)
 · rintro i x σ' ys H' N hx ⟨⟨v, rfl⟩, s, h1, h2⟩ hN
   rw [List.getElem?_map] at hx
   cases hn' : ns[i]? with
   | none => rw [hn'] at hx; cases hx
   | some n =>
    rw [hn'] at hx
    have hx : V.int n = x := Option.some.inj hx
    subst hx
    refine ht n H' _ s ?_
    have e1 := zaC hn'
    cases hc : c n with
    | true =>
     refine iteT (he n H' _ s ⟨h1, hN _ _ _ ⟨⟨_, rfl⟩, ?_, zab, ?_⟩⟩)
     · intro b o q
       have : b ≠ p := fun z => by rw [z, hp] at q; cases q
       rw [zak this]
       exact s b o q
     · rw [h2, e1, List.filter_append, List.filter_cons, if_pos hc]
       simp
    | false =>
     refine iteF (hN _ _ _ ⟨⟨_, rfl⟩, s, h1, ?_⟩)
     rw [h2, e1, List.filter_append, List.filter_cons, if_neg (by rw [hc]; exact Bool.false_ne_true)]
     simp
 · rintro σ' ys H' ⟨_, s, h1, h2⟩
   refine hq H' s ?_
   rw [h1, h2, List.length_map, List.take_length]
theorem ziN {K : PySem.W.Frag} {H : Hp} {a p : Addr} {Q : VK} {js : Cap} {σ cap : St} {tc : TT} {te : TE} (os : List (Option Int)) (c : Option Int → Bool) (hn : os.length ≤ 900) (e : SqT K H a (os.map eV)) (hp : H p = none) (hσ : inn js σ = none :: cap)
 (mono : ∀ {H'}, Same H H' → SqT K H' a (os.map eV))
 (ht : ∀ o H' (R : Bool → Hp → Prop), Same H H' → R (c o) H' → tc (some (eV o) :: cap) H' R) (he : ∀ o H' (R : VK), Same H H' → R (eV o) H' → te (some (eV o) :: cap) H' R)
 (hq : ∀ H', Same H H' → H' p = some (.lst ((os.filter c).map eV)) → Q (.ref p) H') : zcn (Itt K a) p js (zhS 0) tc te σ H Q := by
 have s0 := zae hp (.lst [])
 refine zdk (xs := os.map eV) (fun i σ' ys H' => (∃ v, σ' = v :: cap) ∧ Same H H' ∧ H' p = some (.lst ys) ∧ ys = ((os.take i).filter c).map eV) ⟨⟨_, hσ⟩, s0, zab, rfl⟩ ?_ ?_ ?_
 · rintro i σ' ys H' hi ⟨_, s, h1, h2⟩
   refine ⟨mono s, h1, ?_⟩
   rw [h2]
   simp only [List.length_map]
   have := List.length_filter_le c (os.take i)
   rw [List.length_take] at this
   exact zap (by omega)
 · rintro i x σ' ys H' N hx ⟨⟨v, rfl⟩, s, h1, h2⟩ hN
   rw [List.getElem?_map] at hx
   cases hn' : os[i]? with
   | none => rw [hn'] at hx; cases hx
   | some n =>
    rw [hn'] at hx
    have hx : eV n = x := Option.some.inj hx
    subst hx
    refine ht n H' _ s ?_
    have e1 := zaC hn'
    cases hc : c n with
    | true =>
     refine iteT (he n H' _ s ⟨h1, hN _ _ _ ⟨⟨_, rfl⟩, ?_, zab, ?_⟩⟩)
     · intro b o q
       have : b ≠ p := fun z => by rw [z, hp] at q; cases q
       rw [zak this]
       exact s b o q
     · rw [h2, e1, List.filter_append, List.filter_cons, if_pos hc]
       simp
    | false =>
     refine iteF (hN _ _ _ ⟨⟨_, rfl⟩, s, h1, ?_⟩)
     rw [h2, e1, List.filter_append, List.filter_cons, if_neg (by rw [hc]; exact Bool.false_ne_true)]
     simp
 · rintro σ' ys H' ⟨_, s, h1, h2⟩
   refine hq H' s ?_
   rw [h1, h2, List.length_map, List.take_length]
theorem Same.seqT {K : PySem.W.Frag} {H H' : Hp} {a : Addr} {xs : List V} (e : Same H H') (h : SqT K H a xs) : SqT K H' a xs := by
 rcases h with (h | ⟨o, h⟩) | h
 · exact .inl (.inl (e _ _ h))
 · exact .inl (.inr ⟨o, e _ _ h⟩)
 · exact .inr h
end L2
set_option maxHeartbeats 1000000
namespace L2
open PySem PySem.Spec PyProof.Rows
theorem ObjOk.there {P : Program} {w : World} {H : Hp} {h : Heap} {a : Addr} {o : HO} (x : ObjOk P w H h a o) : ∃ ob, h.get? a = some ob := by
 cases o with
 | lst xs => obtain ⟨_, _, _, _, e⟩ := x; exact ⟨_, e⟩
 | tup xs => obtain ⟨_, _, _, ob, e, _⟩ := x; exact ⟨_, e⟩
 | dK kvs => obtain ⟨_, _, _, _, ob, _, _, e, _⟩ := x; exact ⟨_, e⟩
 | dT kvs => obtain ⟨_, _, _, _, ob, _, _, e, _⟩ := x; exact ⟨_, e⟩
 | set S n => obtain ⟨ob, _, _, _, e, _⟩ := x; exact ⟨_, e⟩
 | ins C dx fs => obtain ⟨_, _, _, e, _⟩ := x; exact ⟨_, e⟩
 | own y => exact x
 | xd fs => obtain ⟨_, ⟨ob, _, _, e, _⟩, _⟩ := x; exact ⟨_, e⟩
 | rng lo hi => obtain ⟨_, _, _, e⟩ := x; exact ⟨_, e⟩
 | frz ob u => obtain ⟨e, _⟩ := x; exact ⟨_, e⟩
 | tbl ps => exact ⟨_, (show h.get? a = some _ from x)⟩
 | met f y => exact ⟨_, (show h.get? a = some _ from x)⟩
 | ext φ => obtain ⟨_, e, _⟩ := x; exact e
structure FlyB (base : Heap) (l : List Env) (s0 : Shared) (a C : Addr) (H' : Hp) (B : Heap) (t : Addr) (h : Heap) : Prop where
 fl : Heap.FlyingW B l a (.ref C) (.ref t) h
 bs : base.StaysIn B
 tr : ∀ b u, H' b = some u → ∃ o, B.get? b = some o
 old : ∀ b o, s0.heap.get? b = some o → b ∉ frs l → ∃ o', B.get? b = some o'
structure Fly (P : Program) (w : World) (base : Heap) (l : List Env) (H : Hp) (s0 : Shared) (a C : Addr) (H' : Hp) (s' : Shared) : Prop where
 ex : ∃ (B : Heap) (t : Addr), FlyB base l s0 a C H' B t s'.heap
 os : s'.os = s0.os
 bare : AllBare s'.gens
 un : Un (frs l) [] H H' s0.heap s'.heap
 hok : HOk P w H' s'.heap
 free : H' a = none
def CXE (P : Program) (w : World) (base : Heap) : CXT := fun outer H s E e s' => ∃ (a C : Addr) (H' : Hp), e = .ref a ∧ Fly P w base outer H s a C H' s' ∧ E (.ref C) none H'
section
variable {P : Program} {w : World} {base : Heap} {l : List Env} {H H' : Hp} {s0 s' : Shared} {a C t : Addr} {B h' : Heap}
theorem FlyB.same (f : FlyB base l s0 a C H' B t h') {h2 : Heap} (st : B.StaysIn h2) {b : Addr} {o ob : Obj} (e : B.get? b = some ob) (e1 : h'.get? b = some o) : h2.get? b = some o := by
 have := f.fl.1 b ob e
 rw [e1] at this
 cases this
 exact st b _ e
theorem Fly.go (f : Fly P w base l H s0 a C H' s') (F0 : s0.heap.FunFrames base l) {B : Heap} {t : Addr} (fb : FlyB base l s0 a C H' B t s'.heap) (fl2 : Heap.FlyingW B l a (.ref C) (.ref t) h') (up : s'.heap.UpToSlots h') :
 Fly P w base l H s0 a C H' { s' with heap := h' } := by
 have same : ∀ b o ob, B.get? b = some ob → s'.heap.get? b = some o → h'.get? b = some o := fun b o ob e e1 => fb.same fl2.1 e e1
 refine ⟨⟨B, t, fl2, fb.bs, fb.tr, fb.old⟩, f.os, f.bare, ⟨fun b o e n hb hx => ?_, fun b o e n hb hx => ?_, fun b o e n hx => f.un.free b o e n hx, fun b o e hx => ?_, f.un.tups, f.un.frzs, f.un.tbls⟩, fun b u e => ?_, f.free⟩
 · obtain ⟨o', eB⟩ := fb.old b o e hb
   exact same b o o' eB (f.un.keep b o e n hb hx)
 · obtain ⟨sl, e1⟩ := f.un.slot b o e n hb hx
   obtain ⟨_, o2, e2, nf⟩ := F0.mem hb
   rw [e] at e2
   cases e2
   obtain ⟨sl2, e3⟩ := up b _ e1 nf
   exact ⟨sl2, e3⟩
 · obtain ⟨o', e1⟩ := f.un.there b o e hx
   by_cases hb : b ∈ frs l
   · obtain ⟨_, o2, e2, nf⟩ := F0.mem hb
     rw [e] at e2
     cases e2
     by_cases hn : H b = none
     · obtain ⟨sl, e3⟩ := f.un.slot b o e hn hb hx
       obtain ⟨sl2, e4⟩ := up b _ e3 nf
       exact ⟨_, e4⟩
     · by_cases hH' : H' b = none
       · obtain ⟨_, _, F3, _⟩ := fl2
         obtain ⟨_, o5, e5, _⟩ := F3.mem hb
         exact ⟨_, e5⟩
       · obtain ⟨u, hu⟩ := Option.ne_none_iff_exists'.mp hH'
         obtain ⟨oB, eB⟩ := fb.tr b u hu
         exact ⟨_, fl2.1 b oB eB⟩
   · obtain ⟨oB, eB⟩ := fb.old b o e hb
     exact ⟨_, fl2.1 b oB eB⟩
 · refine (f.hok b u e).stay (fun c v hc q => ?_) (fun _ q => q) fun _ _ q => q
   rcases hc with rfl | hc
   · obtain ⟨oB, eB⟩ := fb.tr c u e
     exact same c v oB eB q
   · obtain ⟨oB, eB⟩ := fb.tr c _ hc
     exact same c v oB eB q
end
section
variable {X : Cx} {pins : List (Addr × Obj)} {σ : St} {H H' : Hp} {s s' : Shared} {a C : Addr}
theorem Fly.inv (I : Inv X pins σ H s) (f : Fly X.prog X.w X.base X.stack H s a C H' s') : Inv X pins σ H' s' :=
 I.call' f.os f.un f.hok f.bare fun b z => absurd z (by simp)
theorem Fly.leave {Q : Unit → Shared → Prop} {E : Value → Shared → Prop} (I : Inv X pins σ H s) (hst : X.stack = X.env :: X.outer) (hf : X.env.frame = some X.env.locals) (hex : X.ex = []) (f : Fly X.prog X.w X.base X.stack H s a C H' s')
 (hQ : ∀ s'', Fly X.prog X.w X.base X.outer X.H₀ X.s₀ a C H' s'' → Q () s'') : wpAny (model X.prog X.w) X.A (leaving X.env (.ref a)) Q E s' := by
 obtain ⟨B, t, fb⟩ := f.ex
 have I' := f.inv I
 have fl := fb.fl
 rw [hst] at fl
 refine wpAny_leaves_onW (by rw [I.ok.frames, hst]) hf fl fun h' fl' up => hQ _ ?_
 have same : ∀ b o ob, B.get? b = some ob → s'.heap.get? b = some o → h'.get? b = some o := fun b o ob e e1 => fb.same fl'.1 e e1
 have nex : ∀ b : Addr, b ∉ X.ex := fun b => by rw [hex]; simp
 have old' : ∀ b o, X.s₀.heap.get? b = some o → b ∉ frs X.outer → ∃ o', B.get? b = some o' := fun b o e hb => by
  obtain ⟨o1, e1⟩ := I.base.there b o e (nex b)
  refine fb.old b o1 e1 fun hm => ?_
  rcases List.mem_cons.mp (I.stkSub b hm) with z | z
  · exact absurd z (Nat.ne_of_lt (Nat.lt_of_lt_of_le (Heap.lt_size e) I.ok.above))
  · exact hb z
 refine ⟨⟨B, t, fl', fb.bs, fb.tr, old'⟩, f.os.trans I.os, f.bare, ⟨fun b o e n hb _ => ?_, fun b o e n hb _ => ?_, fun b o e n _ => I'.base.free b o e n (nex b), fun b o e _ => ?_, I'.base.tups, I'.base.frzs, I'.base.tbls⟩, fun b u e => ?_, f.free⟩
 · obtain ⟨o', eB⟩ := old' b o e hb
   exact same b o o' eB (I'.base.keep b o e n hb (nex b))
 · obtain ⟨sl, e1⟩ := I'.base.slot b o e n hb (nex b)
   obtain ⟨_, o2, e2, nf⟩ := I.ok.funs.mem hb
   rw [e] at e2
   cases e2
   obtain ⟨sl2, e3⟩ := up b _ e1 nf
   exact ⟨sl2, e3⟩
 · by_cases hb : b ∈ frs X.outer
   · obtain ⟨_, o2, e2, nf⟩ := I.ok.funs.mem hb
     rw [e] at e2
     cases e2
     obtain ⟨sl, e1⟩ := I'.base.slot b o e (I.ok.frf b hb) hb (nex b)
     obtain ⟨sl2, e3⟩ := up b _ e1 nf
     exact ⟨_, e3⟩
   · obtain ⟨oB, eB⟩ := old' b o e hb
     exact ⟨_, fl'.1 b oB eB⟩
 · refine (f.hok b u e).stay (fun c v hc q => ?_) (fun _ q => q) fun _ _ q => q
   rcases hc with rfl | hc
   · obtain ⟨oB, eB⟩ := fb.tr c u e
     exact same c v oB eB q
   · obtain ⟨oB, eB⟩ := fb.tr c _ hc
     exact same c v oB eB q
end
def del (H : Hp) (a : Addr) : Hp := fun b => if b = a then none else H b
theorem ze8 {H : Hp} {a : Addr} : del H a a = none := by unfold del; rw [if_pos rfl]
theorem zdl {H : Hp} {a b : Addr} (h : b ≠ a) : del H a b = H b := by unfold del; rw [if_neg h]
theorem zka {H : Hp} {a b : Addr} {u : HO} (h : del H a b = some u) : b ≠ a ∧ H b = some u := by
 by_cases e : b = a
 · rw [e, ze8] at h; cases h
 · rw [zdl e] at h; exact ⟨e, h⟩
def zg2 (e C : Addr) (h : Heap) : Prop := ∃ t, h.get? e = some { cls := .ref C, data := .fields #[.ref t, .none, .none, .none, .bool false, .none] }
abbrev excO (e C : Addr) : HO := .ext (zg2 e C)
section
variable {X : Cx} {pins : List (Addr × Obj)} {σ : St} {H : Hp} {s : Shared} {e C : Addr}
theorem Inv.raise {Q : Unit → Shared → Prop} {E : Value → Shared → Prop} (I : Inv X pins σ H s) (hst : X.stack = X.env :: X.outer) (hf : X.env.frame = some X.env.locals) (hex : X.ex = []) (he : H e = some (excO e C)) (hn : X.s₀.heap.get? e = none)
 (hQ : ∀ s'', Fly X.prog X.w X.base X.outer X.H₀ X.s₀ e C (del H e) s'' → Q () s'') : wpAny (model X.prog X.w) X.A (leaving X.env (.ref e)) Q E s := by
 obtain ⟨⟨t, ee⟩, _, _⟩ := (show ObjOk X.prog X.w H s.heap e (.ext (zg2 e C)) from I.hok e _ he)
 have nfr : e ∉ frs X.stack := fun z => by rw [I.stkFree e z] at he; cases he
 have hin : ∀ env ∈ X.stack, ∀ b, env.frame = some b → b ∈ e :: frs X.stack := fun env hv b hb => List.mem_cons_of_mem _ (List.mem_filterMap.mpr ⟨env, hv, hb⟩)
 have hl : s.heap.FunFrames (PySem.W.hideAll s.heap (e :: frs X.stack)) X.stack := PySem.W.funFrames_hide I.stack hin
 have st : (PySem.W.hideAll s.heap (e :: frs X.stack)).StaysIn s.heap := fun b o q => PySem.W.of_hideAll _ q
 have nex : ∀ b : Addr, b ∉ X.ex := fun b => by rw [hex]; simp
 have nB : ∀ b o, s.heap.get? b = some o → b ≠ e → b ∉ frs X.stack → (PySem.W.hideAll s.heap (e :: frs X.stack)).get? b = some o := fun b o q h1 h2 => PySem.W.hideAll_get _ q fun hm => by
  rcases List.mem_cons.mp hm with z | z
  · exact h1 z
  · exact h2 z
 have hl : s.heap.FunFrames (PySem.W.hideAll s.heap (e :: frs X.stack)) (X.env :: X.outer) := by
  have hl2 := hl
  generalize PySem.W.hideAll s.heap (e :: frs X.stack) = Bh at hl2 ⊢
  rw [hst] at hl2
  exact hl2
 refine wpAny_leaving_firstW (base := PySem.W.hideAll s.heap (e :: frs X.stack)) (a0 := .ref t) (by rw [I.ok.frames, hst]) hl hf ee st (PySem.W.hideAll_none _ List.mem_cons_self) rfl rfl rfl fun h' hL => hQ _ ?_
 obtain ⟨k1, ⟨_, _, k2⟩, k3, up⟩ := hL
 have same : ∀ b o, b ≠ e → b ∉ frs X.stack → s.heap.get? b = some o → h'.get? b = some o := fun b o h1 h2 q => k1 b o (nB b o q h1 h2)
 have nst : ∀ b o, X.s₀.heap.get? b = some o → b ∉ frs X.outer → b ∉ frs X.stack := fun b o q hb hm => by
  rcases List.mem_cons.mp (I.stkSub b hm) with z | z
  · exact absurd z (Nat.ne_of_lt (Nat.lt_of_lt_of_le (Heap.lt_size q) I.ok.above))
  · exact hb z
 have ne0 : ∀ b o, X.s₀.heap.get? b = some o → b ≠ e := fun b o q z => by rw [z, hn] at q; cases q
 have neT : ∀ b u, H b = some u → u ≠ excO e C → b ≠ e := fun b u q h z => by rw [z, he] at q; exact h (Option.some.inj q).symm
 refine ⟨⟨_, t, ⟨k1, PySem.W.hideAll_none _ List.mem_cons_self, k2, k3⟩, fun b o q => ?_, fun b u q => ?_, fun b o q hb => ?_⟩, I.os, I.bare, ⟨fun b o q n hb _ => ?_, fun b o q n hb _ => ?_, fun b o q n _ => ?_, fun b o q _ => ?_, fun b xs q => ?_, fun b ob u q => ?_, fun b ps q => ?_⟩, fun b u q => ?_, ze8⟩
 · refine nB b o (I.bk b o q) (fun z => ?_) fun hm => ?_
   · have := (I.bs b o q).2
     rw [z, he] at this
     cases this
   · rcases List.mem_cons.mp (I.stkSub b hm) with z | z
     · have := (I.ok.bs b o q).1
       rw [z] at this
       exact absurd (Heap.lt_size this) (Nat.not_lt.mpr I.ok.above)
     · exact I.ok.nofr q z
 · obtain ⟨h1, h2⟩ := zka q
   obtain ⟨ob, e1⟩ := (I.hok b u h2).there
   exact ⟨ob, nB b ob e1 h1 fun z => by rw [I.stkFree b z] at h2; cases h2⟩
 · obtain ⟨o1, e1⟩ := I.base.there b o q (nex b)
   exact ⟨o1, nB b o1 e1 (ne0 b o q) (nst b o q hb)⟩
 · exact same b o (ne0 b o q) (nst b o q hb) (I.base.keep b o q n hb (nex b))
 · obtain ⟨sl, e1⟩ := I.base.slot b o q n hb (nex b)
   obtain ⟨_, o2, e2, nf⟩ := I.ok.funs.mem hb
   rw [q] at e2
   cases e2
   obtain ⟨sl2, e3⟩ := up b _ e1 nf
   exact ⟨sl2, e3⟩
 · rw [zdl (ne0 b o q)]
   exact I.base.free b o q n (nex b)
 · by_cases hb : b ∈ frs X.outer
   · obtain ⟨_, o2, e2, nf⟩ := I.ok.funs.mem hb
     rw [q] at e2
     cases e2
     obtain ⟨sl, e1⟩ := I.base.slot b o q (I.ok.frf b hb) hb (nex b)
     obtain ⟨sl2, e3⟩ := up b _ e1 nf
     exact ⟨_, e3⟩
   · obtain ⟨o1, e1⟩ := I.base.there b o q (nex b)
     exact ⟨_, same b o1 (ne0 b o q) (nst b o q hb) e1⟩
 · have := I.base.tups b xs q
   rw [zdl (neT b _ this (by intro z; cases z))]
   exact this
 · have := I.base.frzs b ob u q
   rw [zdl (neT b _ this (by intro z; cases z))]
   exact this
 · obtain ⟨m, this⟩ := I.base.tbls b ps q
   exact ⟨m, by rw [zdl (neT b _ this (by intro z; cases z))]; exact this⟩
 · obtain ⟨h1, h2⟩ := zka q
   refine (I.hok b u h2).stay (fun c v hc r => ?_) (fun c r => ?_) fun c xs r => ?_
   · rcases hc with rfl | hc
     · exact same c v h1 (fun z => by rw [I.stkFree c z] at h2; cases h2) r
     · exact same c v (neT c _ hc (by intro z; cases z)) (fun z => by rw [I.stkFree c z] at hc; cases hc) r
   · rw [zdl (neT c _ r (by intro z; cases z))]; exact r
   · rw [zdl (neT c _ r (by intro z; cases z))]; exact r
end
structure BmOk (B : String) (bm : List Value) : Prop where
 hasB : bm.contains (.type B) = true
 base : bm.contains (.type "BaseException") = true
 noA : bm.contains (.type "AttributeError") = false
 noN : bm.contains (.type "NameError") = false
theorem BmOk.cons {B : String} {bm : List Value} (O : BmOk B bm) (C : Addr) : (Value.ref C :: bm).contains (.type B) = true ∧ (Value.ref C :: bm).contains (.type "BaseException") = true ∧ (Value.ref C :: bm).contains (.type "AttributeError") = false ∧ (Value.ref C :: bm).contains (.type "NameError") = false := by
 refine ⟨?_, ?_, ?_, ?_⟩
 · rw [List.contains_cons, O.hasB, Bool.or_true]
 · rw [List.contains_cons, O.base, Bool.or_true]
 · rw [List.contains_cons, O.noA]; rfl
 · rw [List.contains_cons, O.noN]; rfl
section
variable {prog : Program} {w : World} {A : Around} {E : Value → Shared → Prop} {h : Heap} {g : Array GenState} {d : Drawn} {t : Nat} {os : OsState} {nm q : Str} {C N : Addr} {bs bm bmB : List Value} {hdct : Bool} {sn : List Str} {sub : List Value}
variable {ab : Bool} {col : Option Bool} {dd : Option Addr} {k0 k1 k2 k3 k5 : Option Value} {B newId initId : String} {rest : List Value}
theorem zkm {M : Model} (F : ExcBaseFacts B newId initId bmB) (O : BmOk B bm) {Q : Unit → Shared → Prop} (hC : h.get? C = some (excClassObj nm q C N bs bm hdct sn sub ab col dd k0 k1 k2 k3 k5 newId)) (hq : Q () ⟨h, g, d, t, os⟩) :
 wpAny M A (checkBuiltinCall newId ⟨.ref C :: rest, []⟩) Q E ⟨h, g, d, t, os⟩ := by
 have cB := (O.cons C).1
 have star := F.noStar
 simp only [checkBuiltinCall, F.newKind, F.newSplit, F.newRow]
 repeat (first | (refine wpAny_isSubtype_exc hC ?_; rw [cB]) | refine wpAny_loadPart_at hC ?_ | refine wpAny_madeBy_exc hC ?_ | refine wpAny_staticBase_exc hC ?_ | simp only [bne_self_eq_false, Bool.false_eq_true, if_false] | wp_step)
 exact hq
theorem zl9 (F : ExcBaseFacts B newId initId bmB) (O : BmOk B bm) {R : Result → Shared → Prop} (hC : h.get? C = some (excClassObj nm q C N bs bm hdct sn sub ab col dd k0 k1 k2 k3 k5 newId)) (hz : rest.length ≤ sizeLine)
 (hq : R (.ok (.ret (.ref (h.objs.size + 1)))) ⟨(h.push { cls := .type "tuple", data := .seq rest.toArray }).push { cls := .ref C, data := .fields #[.ref h.objs.size, .none, .none, .none, .bool false, .none] }, g, d, t, os⟩) :
 codeAny (model prog w) A (.builtin newId ⟨.ref C :: rest, []⟩) R ⟨h, g, d, t, os⟩ := by
 obtain ⟨cB, _, cA, cN⟩ := O.cons C
 have ends := F.ends
 refine codeAny_builtinAt F.entry ?_
 unfold Builtin.«BaseException.__new__»
 refine PySem.wpAt_bind ?_
 show PySem.wpAt _ _ _ (stack >>= _) _ _ _
 refine PySem.wpAt_bind (PySem.wpAt_stack fun p below => PySem.wpAt_of_wpAny ?_)
 wp_walk
 refine PySem.wpAt_of_wpAny ?_
 rw [F.owner]
 repeat (first | with_reducible refine wpAny_madeHere_exc F.canon hC ?_ | (with_reducible refine wpAny_isSubtype_exc hC ?_; first | rw [cB] | rw [cA] | rw [cN]) | with_reducible refine wpAny_loadPart_at hC ?_ | wp_step)
 show R _ _
 rw [Heap.size_push]
 exact hq
theorem zfS (F : ExcBaseFacts B newId initId bmB) (O : BmOk B bm) {Q : PySem.Fin → Shared → Prop} {fI : Addr} {oI : Obj} (hC : h.get? C = some (excClassObj nm q C N bs bm hdct sn sub ab col dd k0 k1 k2 k3 k5 newId))
 (hl : ∀ h', (∀ b o, h.get? b = some o → h'.get? b = some o) → PySem.W.Looks (model prog w) h' (typeLookup (.ref C) "__init__") (some (.ref fI))) (hfI : h.get? fI = some oI) (hfc : oI.cls = .type "function") (hz : rest.length ≤ sizeLine)
 (hq : ∀ h' e, Heap.MadeExcOf h h' e (.ref C) rest → h.objs.size ≤ e → wpAny (model prog w) A (call (.ref fI) (.ref e :: rest)) (fun r s' => r = .none ∧ Q (.done (.ret (.ref e))) s') E ⟨h', g, d, t, os⟩) :
 wpAny (model prog w) A (Builtin.«type.__call__» ⟨.ref C :: rest, []⟩) Q E ⟨h, g, d, t, os⟩ := by
 repeat (first | with_reducible refine wpAny_madeBy_exc hC ?_ | with_reducible refine wpAny_loadPart_at hC ?_ | wp_step)
 refine codeAny_call_builtin_code (Code.quiet_builtin _ F.quiet) (zkm F O hC ?_)
 refine zl9 F O hC hz ?_
 show wpAny _ _ _ _ _ _
 have kp : ∀ b o, h.get? b = some o → ((h.push { cls := .type "tuple", data := .seq rest.toArray }).push { cls := .ref C, data := .fields #[.ref h.objs.size, .none, .none, .none, .bool false, .none] }).get? b = some o := fun b o e => Heap.get?_push_of_some _ (Heap.get?_push_of_some _ e)
 have ge : ((h.push { cls := .type "tuple", data := .seq rest.toArray }).push { cls := .ref C, data := .fields #[.ref h.objs.size, .none, .none, .none, .bool false, .none] }).get? (h.objs.size + 1) = some { cls := .ref C, data := .fields #[.ref h.objs.size, .none, .none, .none, .bool false, .none] } := by heap_get
 have gt : ((h.push { cls := .type "tuple", data := .seq rest.toArray }).push { cls := .ref C, data := .fields #[.ref h.objs.size, .none, .none, .none, .bool false, .none] }).get? h.objs.size = some { cls := .type "tuple", data := .seq rest.toArray } := Heap.get?_push_of_some _ (Heap.get?_push_at rfl rfl)
 have hC1 := kp _ _ hC
 have hL := hl _ kp
 have hf1 := kp _ _ hfI
 have cC : (Value.ref C :: bm).contains (.ref C) = true := by simp
 have mk := hq _ (h.objs.size + 1) ⟨kp, Heap.get?_none_of_le (Nat.le_succ _), h.objs.size, ge, Heap.get?_none_of_le (Nat.le_refl _), gt⟩ (Nat.le_succ _)
 unfold isInstance
 repeat (first | with_reducible refine wpAny_loadPart_at ge ?_ | (with_reducible refine wpAny_isSubtype_exc hC1 ?_; rw [cC]) | wp_step)
 show wpAny _ _ (typeLookup (.ref C) _) _ _ _
 refine PySem.W.Looks.here hL ?_
 refine wpAny_holding (wpAny_bind ?_)
 unfold bindSpecial
 refine wpAny_bind (wpAny_typeOf (T := "function") ⟨_, hf1, hfc⟩ ?_)
 rw [if_pos (by decide)]
 refine wpAny_pure (wpAny_bind (wpAny_mono mk (fun r s' hr => ?_) fun _ _ x => x))
 obtain ⟨rfl, hQ⟩ := hr
 wp_walk
 exact hQ
theorem zk6 (F : ExcBaseFacts B newId initId bmB) (O : BmOk B bm) {Q : Value → Shared → Prop} {fI : Addr} {oI : Obj} (hC : h.get? C = some (excClassObj nm q C N bs bm hdct sn sub ab col dd k0 k1 k2 k3 k5 newId))
 (hl : ∀ h', (∀ b o, h.get? b = some o → h'.get? b = some o) → PySem.W.Looks (model prog w) h' (typeLookup (.ref C) "__init__") (some (.ref fI))) (hfI : h.get? fI = some oI) (hfc : oI.cls = .type "function") (hz : rest.length ≤ sizeLine)
 (hq : ∀ h' e, Heap.MadeExcOf h h' e (.ref C) rest → h.objs.size ≤ e → wpAny (model prog w) (A.under (.builtin "type.__call__" ⟨.ref C :: rest, []⟩)) (call (.ref fI) (.ref e :: rest)) (fun r s' => r = .none ∧ Q (.ref e) s') E ⟨h', g, d, t, os⟩) :
 wpAny (model prog w) A (call (.ref C) rest) Q E ⟨h, g, d, t, os⟩ := by
 have l1 := tc_lookup
 have l2 := tc_bind (.ref C)
 have isT : (⟨h, g, d, t, os⟩ : Shared).TypeIs (.ref C) "type" := ⟨_, hC, rfl⟩
 refine wpAny_call (codeAny_of_tree ?_)
 show wpAny _ _ (callAny (.ref C) _) _ _ _
 repeat (any_goals (first | assumption | with_reducible refine wpAny_loadPart_at hC ?_ | wp_step))
 refine ⟨rfl, codeAny_call_builtin_at (Code.quiet_builtin _ (by decide +kernel)) entry_typeCall (wpAny_check_type_call_sub hC (zfS F O hC hl hfI hfc hz fun h' e hm hs => ?_))⟩
 exact hq h' e hm hs
end
section
variable {prog : Program} {w : World} {A : Around} {E : Value → Shared → Prop} {h : Heap} {g : Array GenState} {d : Drawn} {t : Nat} {os : OsState} {nm q : Str} {C N : Addr} {bs bm bmB : List Value} {hdct : Bool} {sn : List Str} {sub : List Value}
variable {ab : Bool} {col : Option Bool} {dd : Option Addr} {k0 k1 k2 k3 k5 : Option Value} {B newId initId : String} {rest : List Value}
theorem zfe {M : Model} (F : ExcBaseFacts B newId initId bmB) (O : BmOk B bm) {e : Addr} {oe : Obj} {Q : Unit → Shared → Prop} (hC : h.get? C = some (excClassObj nm q C N bs bm hdct sn sub ab col dd k0 k1 k2 k3 k5 newId)) (he : h.get? e = some oe) (hc : oe.cls = .ref C)
 (hq : Q () ⟨h, g, d, t, os⟩) : wpAny M A (checkBuiltinCall initId ⟨.ref e :: rest, []⟩) Q E ⟨h, g, d, t, os⟩ := by
 have cB := (O.cons C).1
 have short := F.noStar
 simp only [checkBuiltinCall, F.initKind, F.initSplit, F.initRow]
 repeat (first | (with_reducible refine wpAny_isSubtype_exc hC ?_; rw [cB]) | (with_reducible refine wpAny_loadPart_at he ?_; rw [hc]) | with_reducible refine wpAny_loadPart_at hC ?_ | wp_step)
 refine wpAny_onRaise ?_
 have star : ∀ (a b : String) (n : Nat), Bind.check ⟨.positional, "*", B, .self, [⟨"args", .varPos, false⟩]⟩ a b n (List.map (fun x => x.fst) ({ pos := Value.ref e :: rest } : Args).kw) = pure () := fun a b n => check_star_args _ _ _ _ _ _
 rw [star]
 exact wpAny_pure hq
theorem zk5 (F : ExcBaseFacts B newId initId bmB) (O : BmOk B bm) {e t0 : Addr} {Q : Value → Shared → Prop} (hC : h.get? C = some (excClassObj nm q C N bs bm hdct sn sub ab col dd k0 k1 k2 k3 k5 newId)) (hz : rest.length ≤ sizeLine)
 (he : h.get? e = some { cls := .ref C, data := .fields #[.ref t0, .none, .none, .none, .bool false, .none] })
 (hq : ∀ h' t1, (∀ b o, b ≠ e → h.get? b = some o → h'.get? b = some o) → h'.get? e = some { cls := .ref C, data := .fields #[.ref t1, .none, .none, .none, .bool false, .none] } → Q .none ⟨h', g, d, t, os⟩) :
 wpAny (model prog w) A (call (.builtin initId) (.ref e :: rest)) Q E ⟨h, g, d, t, os⟩ := by
 refine wpAny_call (codeAny_call_builtin F.init.plain F.initEntry (zfe F O hC he rfl ?_))
 wp_walk
 refine hq _ h.objs.size (fun b o hb q => ?_) ?_
 · rw [Heap.get?_update_other _ _ (Ne.symm hb)]
   exact Heap.get?_push_of_some _ q
 · rw [Heap.get?_update_self _ (Heap.get?_push_of_some _ he) rfl]
   rfl
end
def XOk (K : PySem.W.Frag) (C : Addr) : Prop := ∃ (nm q : Str) (N : Addr) (bs bm : List Value) (hdct : Bool) (sn : List Str) (sub : List Value) (ab : Bool) (col : Option Bool) (dd : Option Addr) (k0 k1 k2 k3 k5 : Option Value),
 K.lookup C = some (excClassObj nm q C N bs bm hdct sn sub ab col dd k0 k1 k2 k3 k5 "ValueError.__new__") ∧ BmOk "ValueError" bm
structure XCls (K : PySem.W.Frag) (C fI : Addr) : Prop where
 ok : XOk K C
 init : PySem.W.findIn K (.ref C) "__init__" = some (some (.ref fI))
 fn : ∃ oI, K.lookup fI = some oI ∧ oI.cls = .type "function"
 kp : PySem.W.keepIn K (.ref C) = true
def zh9 (K : PySem.W.Frag) : Sp := fun vs H Q _ => ∃ (e C : Addr) (v : V), vs = [.ref e, v] ∧ H e = some (excO e C) ∧ XOk K C ∧ Q .non H
theorem zhl {e C : Addr} : ∀ h1 h2 : Heap, zg2 e C h1 → (∀ o, h1.get? e = some o → h2.get? e = some o) → zg2 e C h2 := fun _ _ ⟨t, x⟩ k => ⟨t, k _ x⟩
theorem zkV {H : Hp} {a : Addr} {o : HO} (h : H a = none) : del (upd H a o) a = H := by
 funext b
 by_cases e : b = a
 · rw [e, ze8, h]
 · rw [zdl e, zak e]
section
variable {X : Cx}
theorem zkU (K : PySem.W.Frag) : PySem.W.findCls K (.type "ValueError") (.type "type") "__init__" = some (.val (.builtin "ValueError.__init__")) := by kernel_rfl
def zlc (K : PySem.W.Frag) (t : TA) : TE := fun σ H Q => t σ H fun vs H1 => ∃ (e C : Addr) (v : V), vs = [.ref e, v] ∧ H1 e = some (excO e C) ∧ XOk K C ∧ Q .non H1
theorem zjC {e1 e2 : Expr} {t : TA} {p1 apos pos : Pos} (hg : Gl X "ValueError") (hm : X.mg "ValueError" = none) (ha : PA X [e1, e2] t)
 (hst : starEach [e1, e2] X.env = (false, eval e1 X.env) :: starEach [e2] X.env := by rfl) (hpl : (backTo pos (starEach [e2] X.env)).any (·.1) = false := by rfl) {pl : Sem Bool}
 (ht : eval (.Call (.Attribute (.Name "ValueError" p1) "__init__" apos) [e1, e2] [] pos) X.env = (do
  let ov ← eval (.Name "ValueError" p1) X.env
  standAt apos.atName
  let (f, first) ← holding [ov] (getMethod ov "__init__" pl)
  callWith pos f first (backTo pos (starEach [e1, e2] X.env)) (backToKw pos (keywordEach [] X.env))) := by rfl) :
 PE X (.Call (.Attribute (.Name "ValueError" p1) "__init__" apos) [e1, e2] [] pos) (zlc X.K t) := by
 intro pins s σ H Q I h
 refine PySem.W.methodCall_KW (pl := pl) (zcY I hg hm (show bootBuiltins "ValueError" = some (.type "ValueError") by decide +kernel) ?_ (by decide) (by decide)) ht
 obtain ⟨m, F⟩ := I.fr
 refine PySem.W.method_type (v := .builtin "ValueError.__init__") F I.ok.mod.kin (by rfl) (by decide +kernel) (zkU X.K) (by decide +kernel) ?_
 have I1 := I.tok (s.toks + 1)
 refine PyProof.Rows.callWith_builtin1 (thn (ha pos pins _ σ H _ I1 h) fun us s1 ⟨vs, H1, I2, r1, e, C, v, hv, hx, ⟨nm, q, N, bs, bm, hdct, sn, sub, ab, col, dd, k0, k1, k2, k3, k5, hC, O⟩, q1⟩ => ?_) hst hpl
 subst hv
 obtain ⟨u1, u2, rfl, ru, _⟩ := zhu r1
 obtain rfl : u1 = Value.ref e := ru
 obtain ⟨⟨t0, ee⟩, _, _⟩ := (show ObjOk X.prog X.w H1 s1.heap e (.ext (zg2 e C)) from I2.hok e _ hx)
 have hC' := I2.kIn _ _ hC
 obtain ⟨hh, g, d, tk, os⟩ := s1
 refine zk5 PySem.F.excBase_ValueError O hC' (by show 1 ≤ sizeLine; decide) ee fun h' t1 kp e1' => ?_
 have hn : zg2 e C h' := ⟨t1, e1'⟩
 have I3 : Inv X pins σ (upd H1 e (excO e C)) { heap := h', gens := g, drawn := d, toks := tk, os := os } :=
  I2.write (x := e) (e := e) (by rw [hx]; trivial) (.inl rfl) kp ⟨_, e1'⟩ ⟨hn, ⟨_, e1'⟩, zhl⟩
 have eH : upd H1 e (excO e C) = H1 := by
  funext b
  by_cases hb : b = e
  · rw [hb, zab, hx]
  · rw [zak hb]
 rw [eH] at I3
 exact ⟨.non, H1, I3, rfl, q1⟩
end
def zkj (X : Cx) (E : XK) : Prop := ∀ (pins : List (Addr × Obj)) (σ : St) (H : Hp) (s : Shared) (e C : Addr), Inv X pins σ H s → H e = some (excO e C) → X.s₀.heap.get? e = none → E (.ref C) none (del H e) → X.xe (.ref e) s
section
variable {P : Program} {w : World} {K : PySem.W.Frag} {mg : Str → Option Value} {base : Heap} {N : List Str} {qual : Str} {scope : Scope} {f : Addr} {cd : Value} {A : Around} {outer : List Env} {s : Shared} {H : Hp} {E : XK}
theorem zil : zkj (cxOf (CXE P w base) P w K mg base N qual scope f cd A outer s H E) E := fun pins σ H' s' e C I he hn hE => I.raise rfl rfl rfl he hn fun s'' fly => ⟨e, C, _, rfl, fly, hE⟩
theorem zix : zhp (CXE P w base) (cxOf (CXE P w base) P w K mg base N qual scope f cd A outer s H E) E := fun pins σ H1 s1 e s' I hx => by
 obtain ⟨a, C, H', rfl, fl, q⟩ := hx
 exact fl.leave I rfl rfl rfl fun s'' f' => ⟨a, C, H', rfl, f', q⟩
theorem Fun.okX {x : Str} {st : Stmt} {fd : FuncData} {ps : List Str} {k : Nat} {sp : Sp} (F : Fun K x qual st f fd) (S : FnScope N ps (zag st)) (len : ∀ vs H Q E, sp vs H Q E → vs.length = ps.length)
 (hbody : ∀ (cdv : Value) (A : Around) (outer : List Env) (s : Shared) (H : Hp) (vs : List V) (Q : VK) (E : XK), Room k (A.deeper (envOfC qual (zag st) s.heap.objs.size f cdv)) → sp vs H Q E →
  ∃ t, PSs (cxOf (CXE P w base) P w K mg base N qual (zag st) f cdv A outer s H E) (zbv st) t ∧ t { nx := fun _ H' => Q .non H', rt := Q } (zeE N vs) H) : FnOk P w K mg base (CXE P w base) (k + 1) f fd ps sp := by
 obtain ⟨oc, od, kV, doc, pm, an, cdv, ct, osl, rfl, lk, hcd⟩ := F.ex
 exact zlR lk hcd S len fun A outer s H vs Q E hr hsp => hbody cdv A outer s H vs Q E hr hsp
end
def FnHX (P : Program) (w : World) (K : PySem.W.Frag) (mg : Str → Option Value) (base : Heap) (k : Nat) (x : Str) (ps : List Str) (sp : Sp) : Prop :=
 ∃ f fd, FnOk P w K mg base (CXE P w base) k f fd ps sp ∧ Binds K fd ps [] ∧ PySem.W.keepIn K (.ref f) = true ∧ mg x = some (.ref f)
section
variable {P : Program} {w : World} {K : PySem.W.Frag} {mg : Str → Option Value} {base : Heap} {N : List Str} {qual : Str} {scope : Scope} {f : Addr} {cd : Value} {A : Around} {outer : List Env} {s : Shared} {H : Hp} {E : XK}
theorem zdU {k : Nat} {x : Str} {ps : List Str} {sp : Sp} {e : Expr} {es : List Expr} {t : TA} {p pos : Pos} (F : FnHX P w K mg base k x ps sp) (hr : Room k (A.deeper (envOfC qual scope s.heap.objs.size f cd))) (hg : Gl (cxOf (CXE P w base) P w K mg base N qual scope f cd A outer s H E) x)
 (ha : PA (cxOf (CXE P w base) P w K mg base N qual scope f cd A outer s H E) (e :: es) t) (hdb : (x == ("__debug__" : Str)) = false := by decide)
 (he : starEach (e :: es) (envOfC qual scope s.heap.objs.size f cd) = (false, eval e (envOfC qual scope s.heap.objs.size f cd)) :: starEach es (envOfC qual scope s.heap.objs.size f cd) := by rfl) (hpl : (backTo pos (starEach es (envOfC qual scope s.heap.objs.size f cd))).any (·.1) = false := by rfl) :
 PE (cxOf (CXE P w base) P w K mg base N qual scope f cd A outer s H E) (.Call (.Name x p) (e :: es) [] pos) (zkt sp [] E t) := by
 obtain ⟨f', fd, h1, h2, h3, h4⟩ := F
 exact ziv (X := cxOf (CXE P w base) P w K mg base N qual scope f cd A outer s H E) h1 hr hg h4 h3 h2 .nil zix ha hdb he hpl
end
section
variable {X : Cx} {E : XK} {C fI : Addr} {fd : FuncData} {k : Nat} {x : Str} {e1 : Expr} {t : TA} {np cpos pos : Pos}
def zle (C : Addr) (E : XK) (t : TA) : TS := fun _ σ H => t σ H fun vs H1 => ∃ v, vs = [v] ∧ E (.ref C) none H1
theorem zjA (hR : zkj X E) (hc : X.calm = true) (T : XCls X.K C fI) (hg : Gl X x) (hm : X.mg x = some (.ref C)) (F : FnOk X.prog X.w X.K X.mg X.base CX0 k fI fd ["self", "text"] (zh9 X.K)) (hb : Binds X.K fd ["self", "text"] []) (hr : Room (k + 1) X.A)
 (ha : PA X [e1] t) (hdb : (x == ("__debug__" : Str)) = false := by decide) (he : starEach [e1] X.env = (false, eval e1 X.env) :: starEach [] X.env := by rfl) (hpl : (backTo cpos (starEach [] X.env)).any (·.1) = false := by rfl) :
 PS X (.Raise (some (.Call (.Name x np) [e1] [] cpos)) none pos) (zle C E t) := by
 intro pins s σ H D I h
 obtain ⟨nm, q, N, bs, bm, hdct, sn, sub, ab, col, dd, k0, k1, k2, k3, k5, hC, O⟩ := T.ok
 obtain ⟨oI, lI, cI⟩ := T.fn
 have made : wpAny (model X.prog X.w) X.A (eval (.Call (.Name x np) [e1] [] cpos) X.env) (fun v s₁ => ∃ e t, v = .ref e ∧ s₁.heap.get? C = some (excClassObj nm q C N bs bm hdct sn sub ab col dd k0 k1 k2 k3 k5 "ValueError.__new__") ∧
  s₁.heap.get? e = some { cls := .ref C, data := .fields #[.ref t, .none, .none, .none, .bool false, .none] } ∧ X.xe (.ref e) s₁) X.xe s := by
  refine wpAny_Call_Name_kw (zd5 I hg hm ?_ hdb)
  refine PySem.W.callWith_K (h₀ := X.base) I.ok.mod.kin T.kp (thn (ha cpos pins s σ H _ I h) fun us s1 ⟨vs, H1, I1, r, v, hv, q1⟩ => ⟨I1.kIn, ?_⟩) he hpl
  subst hv
  obtain ⟨u1, rfl, ru⟩ := zc3 r
  have sz := I1.sz
  have Kx := I1.kIn
  obtain ⟨hh, g, d, tk, os⟩ := s1
  refine zk6 PySem.F.excBase_ValueError O (Kx _ _ hC) (fun h' kp => PySem.W.looks_findIn (Kx.keeps kp) T.init) (Kx _ _ lI) cI (by show 1 ≤ sizeLine; decide) fun h' e mk hs => ?_
  obtain ⟨tt, ee, _, _⟩ := mk.there
  have ne : H1 e = none := I1.hok.fresh hs
  have I2 : Inv X pins σ (upd H1 e (excO e C)) { heap := h', gens := g, drawn := d, toks := tk, os := os } := I1.laid mk.keeps hs ⟨⟨tt, ee⟩, ⟨_, ee⟩, zhl⟩
  refine wpAny_call (codeAny_mono (F.run _ X.stack _ _ ⟨[Value.ref e, u1], []⟩ [Value.ref e, u1] [V.ref e, v] (fun v' H' => v' = .non ∧ H' = upd H1 e (excO e C)) E0 (hr.make C [u1] []) (I2.env0.make C [u1] []) (hb _ [Value.ref e, u1] I2.kIn rfl) (.cons rfl (.cons ru .nil)) ⟨e, C, v, rfl, zab, T.ok, rfl, rfl⟩) fun r s' hq => ?_)
  cases r with
  | error x => exact hq.elim
  | ok fl =>
   cases fl with
   | ret u =>
    obtain ⟨v', H', I3, rv, rfl, rfl⟩ := I2.after hq
    obtain ⟨⟨t3, e3⟩, _, _⟩ := (show ObjOk X.prog X.w (upd H1 e (excO e C)) s'.heap e (.ext (zg2 e C)) from I3.hok e _ zab)
    refine ⟨rv, e, t3, rfl, I3.kIn _ _ hC, e3, hR pins σ _ s' e C I3 zab ?_ ?_⟩
    · exact Heap.get?_none_of_le (Nat.le_trans sz hs)
    · rw [zkV ne]; exact q1
   | next => exact hq.elim
   | brk => exact hq.elim
   | cont => exact hq.elim
 have hh : X.A.handled = none := I.ok.hd hc
 rw [arm_exec_Raise]
 refine wpAny_bind (wpAny_standAt ?_)
 refine wpAny_raiseStmt_made_sub (C := C) (nm := nm) (q := q) (N := N) (bs := bs) (bm := bm) (hdct := hdct) (sn := sn) (sub := sub) (ab := ab) (col := col) (dd := dd) (k0 := k0) (k1 := k1) (k2 := k2) (k3 := k3) (k5 := k5) (newId := "ValueError.__new__") O.base hh ?_
 exact wpAny_bind (wpAny_mono made (fun v s₃ h₃ => wpAny_bind (wpAny_standAt (wpAny_pure h₃))) fun _ _ x => x)
end
abbrev isX (a C : Addr) : HO := .ext (fun h => ∃ o, h.get? a = some o ∧ o.cls = .ref C)
section
variable {X : Cx} {pins : List (Addr × Obj)} {σ : St} {H : Hp} {s : Shared} {a : Addr} {o : HO}
theorem Inv.track (I : Inv X pins σ H s) (hn : H a = none) (h0 : X.s₀.heap.get? a = none) (hl : a ≠ X.env.locals) (hc : ∀ x c, X.env.cells.lookup x = some c → c ≠ a) (hp : ∀ p ∈ X.pn ++ pins, p.1 ≠ a) (new : ObjOk X.prog X.w (upd H a o) s.heap a o) : Inv X pins σ (upd H a o) s := by
 refine ⟨I.ok, I.os, I.bare, ⟨I.base.keep, I.base.slot, fun b ob q n hx => ?_, I.base.there, fun b xs q => ?_, fun b ob u q => ?_, fun b ps q => ?_⟩, I.loc, I.cell, ?_, fun x c e => ?_, fun p hp' => ?_, fun b u q => ?_, I.len⟩
 · have : b ≠ a := fun z => by rw [z, h0] at q; cases q
   rw [zak this]
   exact I.base.free b ob q n hx
 · have := I.base.tups b xs q
   rw [zak (zar this hn)]
   exact this
 · have := I.base.frzs b ob u q
   rw [zak (zar this hn)]
   exact this
 · obtain ⟨m, this⟩ := I.base.tbls b ps q
   exact ⟨m, by rw [zak (zar this hn)]; exact this⟩
 · rw [zak hl.symm]; exact I.free
 · rw [zak (hc x c e)]; exact I.freeC x c e
 · obtain ⟨e, n, r⟩ := I.pin p hp'
   exact ⟨e, by rw [zak (hp p hp')]; exact n, r⟩
 · by_cases hb : b = a
   · subst hb
     rw [zab] at q
     cases q
     exact new
   · rw [zak hb] at q
     exact (I.hok b u q).stay (fun c v _ r => r) (fun c r => by rw [zak (zar r hn)]; exact r) fun c xs r => by rw [zak (zar r hn)]; exact r
end
abbrev Cx.inX (X : Cx) (a : Addr) : Cx := { X with A := X.A.mark (some (.ref a)), calm := false, xe := fun _ _ => False }
section
variable {X : Cx} {pins : List (Addr × Obj)} {σ : St} {H : Hp} {s : Shared} {a : Addr}
theorem Inv.inX (I : Inv X pins σ H s) (a : Addr) : Inv (X.inX a) pins σ H s :=
 ⟨⟨I.ok.mod, I.ok.kind, I.ok.glob, I.ok.blt, I.ok.above, I.ok.inj, I.ok.has, I.ok.cab, fun z => (by cases z), I.ok.frames, I.ok.stk, I.ok.exf, I.ok.bs, I.ok.bsz, I.ok.noex, I.ok.exfs, I.ok.funs, I.ok.frf⟩, I.os, I.bare, I.base, I.loc, I.cell, I.free, I.freeC, I.pin, I.hok, I.len⟩
theorem Inv.outX (ok : X.Ok) (I : Inv (X.inX a) pins σ H s) : Inv X pins σ H s := ⟨ok, I.os, I.bare, I.base, I.loc, I.cell, I.free, I.freeC, I.pin, I.hok, I.len⟩
end
def XE (X : Cx) (RR : St → Value → Hp → Prop) (pins : List (Addr × Obj)) : Value → Shared → Prop := fun e s' =>
 ∃ (a C : Addr) (H0 : Hp) (s0 : Shared) (σ' : St) (H' : Hp), e = .ref a ∧ Inv X pins σ' H0 s0 ∧ Fly X.prog X.w X.base X.stack H0 s0 a C H' s' ∧ RR σ' (.ref C) H'
abbrev Cx.tryX (X : Cx) (RR : St → Value → Hp → Prop) (pins : List (Addr × Obj)) : Cx := { X with pn := X.pn ++ pins, xe := XE X RR pins }
section
variable {X : Cx} {pins pins' : List (Addr × Obj)} {σ : St} {H : Hp} {s : Shared} {RR : St → Value → Hp → Prop}
theorem Inv.tryX (I : Inv X pins σ H s) (RR : St → Value → Hp → Prop) : Inv (X.tryX RR pins) [] σ H s :=
 ⟨⟨I.ok.mod, I.ok.kind, I.ok.glob, I.ok.blt, I.ok.above, I.ok.inj, I.ok.has, I.ok.cab, I.ok.hd, I.ok.frames, I.ok.stk, I.ok.exf, I.ok.bs, I.ok.bsz, I.ok.noex, I.ok.exfs, I.ok.funs, I.ok.frf⟩, I.os, I.bare, I.base, I.loc, I.cell, I.free, I.freeC, fun p hp => I.pin p (by rw [List.append_nil] at hp; exact hp), I.hok, I.len⟩
theorem Inv.outTry (I : Inv (X.tryX RR pins) pins' σ H s) : Inv X pins σ H s :=
 ⟨⟨I.ok.mod, I.ok.kind, I.ok.glob, I.ok.blt, I.ok.above, I.ok.inj, I.ok.has, I.ok.cab, I.ok.hd, I.ok.frames, I.ok.stk, I.ok.exf, I.ok.bs, I.ok.bsz, I.ok.noex, I.ok.exfs, I.ok.funs, I.ok.frf⟩, I.os, I.bare, I.base, I.loc, I.cell, I.free, I.freeC, fun p hp => I.pin p (List.mem_append_left _ hp), I.hok, I.len⟩
theorem SP.outTry {D : Ends} {f : Flow} {s' : Shared} (h : SP (X.tryX RR pins) pins' D f s') : SP X pins D f s' := by
 cases f with
 | next => obtain ⟨σ', H', I, q⟩ := h; exact ⟨σ', H', I.outTry, q⟩
 | brk => obtain ⟨σ', H', I, q⟩ := h; exact ⟨σ', H', I.outTry, q⟩
 | cont => obtain ⟨σ', H', I, q⟩ := h; exact ⟨σ', H', I.outTry, q⟩
 | ret u => obtain ⟨v, σ', H', I, r, q⟩ := h; exact ⟨v, σ', H', I.outTry, r, q⟩
def zlh (sp : Sp) (RR : St → Value → Hp → Prop) (t : TA) : TE := fun σ H Q => t σ H fun vs H1 => sp vs H1 Q (fun cls _ H' => RR σ cls H')
theorem zj7 {k : Nat} {x : Str} {ps : List Str} {sp : Sp} {e : Expr} {es : List Expr} {t : TA} {p pos : Pos} (F : FnHX X.prog X.w X.K X.mg X.base k x ps sp) (hr : Room k X.A) (hg : Gl X x) (ha : PA (X.tryX RR pins) (e :: es) t) (hdb : (x == ("__debug__" : Str)) = false := by decide)
 (he : starEach (e :: es) X.env = (false, eval e X.env) :: starEach es X.env := by rfl) (hpl : (backTo pos (starEach es X.env)).any (·.1) = false := by rfl) : PE (X.tryX RR pins) (.Call (.Name x p) (e :: es) [] pos) (zlh sp RR t) := by
 obtain ⟨f, fd, F1, h2, h3, h4⟩ := F
 intro pins2 s σ H Q I h
 refine wpAny_Call_Name_kw (zd5 I hg h4 ?_ hdb)
 refine PySem.W.callWith_K (h₀ := X.base) I.ok.mod.kin h3 (thn (ha pos pins2 s σ H _ I h) fun us s1 ⟨vs, H1, I1, r, q⟩ => ⟨I1.kIn, ?_⟩) he hpl
 have hl : us.length = ps.length := by rw [← r.length]; exact F1.len _ _ _ _ q
 have hb := h2 s1 us I1.kIn (by rw [List.append_nil]; exact hl)
 rw [List.append_nil] at hb
 refine wpAny_call (codeAny_mono (F1.run X.A X.stack s1 H1 ⟨us, []⟩ us vs Q _ hr I1.outTry.env0 hb r q) fun r s' hq => ?_)
 cases r with
 | error e =>
  obtain ⟨a, C, H', rfl, fl, q'⟩ := hq
  exact ⟨a, C, H1, s1, σ, H', rfl, I1.outTry, fl, q'⟩
 | ok fl =>
  cases fl with
  | ret u => exact I1.after hq
  | next => exact False.elim hq
  | brk => exact False.elim hq
  | cont => exact False.elim hq
end
section
variable {P : Program} {w : World} {base : Heap} {l : List Env} {H H' : Hp} {s0 s' : Shared} {a C t : Addr} {B : Heap}
theorem Fly.fresh (f : Fly P w base l H s0 a C H' s') (F0 : s0.heap.FunFrames base l) (hfree : ∀ b ∈ frs l, H b = none) : s0.heap.get? a = none := by
 obtain ⟨B, t, fb⟩ := f.ex
 cases q : s0.heap.get? a with
 | none => rfl
 | some o =>
  by_cases hm : a ∈ frs l
  · obtain ⟨_, o2, e2, nf⟩ := F0.mem hm
    rw [q] at e2
    cases e2
    obtain ⟨sl, e3⟩ := f.un.slot a o q (hfree a hm) hm (by simp)
    obtain ⟨_, _, _, oe, vs, T, oT, ts, h1, _, h2, _⟩ := fb.fl
    rw [e3] at h1
    cases h1
    exact absurd h2 (nf vs)
  · obtain ⟨oB, eB⟩ := fb.old a o q hm
    have := fb.fl.2.1
    rw [eB] at this
    cases this
end
section
variable {M : Model} {A : Around} {E : Value → Shared → Prop} {h : Heap} {g : Array GenState} {d : Drawn} {t : Nat} {os : OsState} {nm q nm0 q0 : Str} {C N C0 N0 e : Addr} {bs bm bs0 bm0 : List Value} {hdct hdct0 : Bool} {sn sn0 : List Str} {sub sub0 : List Value}
variable {ab ab0 : Bool} {col col0 : Option Bool} {dd dd0 : Option Addr} {k0 k1 k2 k3 k5 j0 j1 j2 j3 j5 : Option Value} {newId newId0 : String} {oe : Obj}
theorem zhY {Q : Bool → Shared → Prop} (hC : h.get? C = some (excClassObj nm q C N bs bm hdct sn sub ab col dd k0 k1 k2 k3 k5 newId)) (hC0 : h.get? C0 = some (excClassObj nm0 q0 C0 N0 bs0 bm0 hdct0 sn0 sub0 ab0 col0 dd0 j0 j1 j2 j3 j5 newId0)) (O0 : BmOk "ValueError" bm0)
 (hs : (Value.ref C :: bm).contains (.ref C0) = true) (he : h.get? e = some oe) (hc : oe.cls = .ref C) (hq : Q true ⟨h, g, d, t, os⟩) : wpAny M A (excMatches (.ref e) (.ref C0)) Q E ⟨h, g, d, t, os⟩ := by
 have cB := (O0.cons C0).2.1
 have nt := tc_notTuple
 unfold excMatches
 repeat (first | (with_reducible refine wpAny_isSubtype_exc hC0 ?_; rw [cB]) | (with_reducible refine wpAny_isSubtype_exc hC ?_; rw [hs]) | (with_reducible refine wpAny_loadPart_at he ?_; rw [hc]) | with_reducible refine wpAny_loadPart_at hC0 ?_ | wp_step)
 exact hq
end
def XSub (K : PySem.W.Frag) (C C0 : Addr) : Prop := ∃ (nm q : Str) (N : Addr) (bs bm : List Value) (hdct : Bool) (sn : List Str) (sub : List Value) (ab : Bool) (col : Option Bool) (dd : Option Addr) (k0 k1 k2 k3 k5 : Option Value),
 K.lookup C = some (excClassObj nm q C N bs bm hdct sn sub ab col dd k0 k1 k2 k3 k5 "ValueError.__new__") ∧ (Value.ref C :: bm).contains (.ref C0) = true
section
variable {X : Cx} {C0 : Addr} {x n : Str} {i : Nat} {body suite : List Stmt} {b₀ : Stmt} {np hpos pos : Pos} {tb : (St → Value → Hp → Prop) → TS} {ts : TS}
end
section
variable {X : Cx}
end
open PySem.W (Looks looks_findIn looks_mroIn looks_typeIn)
section
variable {prog : Program} {w : World} {A : Around} {E : Value → Shared → Prop} {K : PySem.W.Frag} {h : Heap} {g : Array GenState} {d : Drawn} {t : Nat} {os : OsState} {a C : Addr}
end
section
variable {X : Cx}
def clsV : V → Value
 | .ref D => .ref D
 | .ty n => .type n
 | _ => .none
def zi1 : V → Bool
 | .ref _ => true
 | .ty _ => true
 | _ => false
theorem zjV {c : V} {u : Value} (h : zi1 c = true) (r : RelV c u) : u = clsV c := by
 cases c with
 | ref D => exact r
 | ty n => exact r
 | _ => cases h
theorem zfJ : ∀ {cs : List V} {us : List Value}, cs.all zi1 = true → Vals cs us → us = cs.map clsV
 | [], _, _, .nil => rfl
 | c :: cs, _, h, .cons r rs => by
  rw [List.all_cons, Bool.and_eq_true] at h
  rw [zjV h.1 r, zfJ h.2 rs]; rfl
end
end L2
namespace L2
open PySem PySem.Spec PyProof.Rows
open PySem.W (Looks looks_findIn looks_mroIn looks_typeIn)
theorem FnHX.calm {P : Program} {w : World} {K : PySem.W.Frag} {mg : Str → Option Value} {base : Heap} {k : Nat} {x : Str} {ps : List Str} {sp : Sp} (F : FnHX P w K mg base k x ps sp) : FnH P w K mg base k x ps (fun vs H Q _ => sp vs H Q E0) := by
 obtain ⟨f, fd, h1, h2, h3, h4⟩ := F
 refine ⟨f, fd, ⟨fun vs H Q E h => h1.len vs H Q E0 h, fun A outer s H args us vs Q E hr he hb hv hs => ?_⟩, h2, h3, h4⟩
 refine codeAny_mono (h1.run A outer s H args us vs Q E0 hr he hb hv hs) fun r s' hq => ?_
 cases r with
 | ok fl => cases fl <;> exact hq
 | error e => obtain ⟨a, C, H', _, _, q⟩ := hq; exact q.elim
section
variable {P : Program} {w : World} {K : PySem.W.Frag} {mg : Str → Option Value} {base : Heap} {N : List Str} {qual : Str} {scope : Scope} {f : Addr} {cd : Value} {A : Around} {outer : List Env} {s : Shared} {H : Hp} {E : XK}
end
section
variable {prog : Program} {w : World} {A : Around} {E : Value → Shared → Prop} {h : Heap} {g : Array GenState} {d : Drawn} {t : Nat} {os : OsState} {nm q : Str} {C N : Addr} {bs bm bmB : List Value} {hdct : Bool} {sn : List Str} {sub : List Value}
variable {ab : Bool} {col : Option Bool} {dd : Option Addr} {k0 k1 k2 k3 k5 : Option Value} {B newId initId : String} {rest : List Value}
end
section
variable {X : Cx}
end
section
variable {X : Cx} {C fI : Addr} {fd : FuncData} {k : Nat} {x : Str} {e1 : Expr} {t : TA} {np cpos : Pos}
end
section
variable {prog : Program} {w : World} {A : Around} {E : Value → Shared → Prop} {K : PySem.W.Frag} {h : Heap} {g : Array GenState} {d : Drawn} {t : Nat} {os : OsState} {e t0 C : Addr} {m : Str} {tk : Tok}
end
section
variable {X : Cx}
end
end L2
namespace L2
open PySem PySem.Spec PyProof.Rows
def Itv (xs : List V) : It := ⟨fun i _ => i < xs.length, fun i H x H' => H' = H ∧ xs[i]? = some x, fun i _ => xs.length ≤ i⟩
theorem zeB {P : Program} {w : World} {K : PySem.W.Frag} {tg : Expr} (it : Addr) (x : Str) (t : Tok) : Turn P w K tg (Itv (x.cps.toList.map fun c => V.str ⟨#[c]⟩)) [it] it (fun i h => h.IsStrIter it "str_ascii_iterator" x t i) where
 mem := by simp
 obj := fun i h st b hb => by
  have e : b = it := by simpa using hb
  subst e
  obtain ⟨o, e, c, d⟩ := st
  exact ⟨o, e, fun v z => by rw [d] at z; cases z⟩
 keep := fun i h h' st k => let ⟨o, ho, r⟩ := st; ⟨o, k it (by simp) o ho, r⟩
 item := by
  intro X hP hw hK hc i pins s σ H E I hf st hg
  subst hP hw hK
  have hg : i < (x.cps.toList.map fun c => V.str ⟨#[c]⟩).length := hg
  rw [List.length_map, Array.length_toList] at hg
  obtain ⟨f0, f1, f2, f3, f4, f5⟩ := hf it (by simp)
  refine wpAny_pyNext_ascii_item st (c := x.cps[i]) (by simp [hg]) fun h' st' sb => ?_
  have I1 : Inv X pins σ H { s with heap := h', toks := s.toks + 1 } := I.turned (fun b o hb e => (sb.2 b hb).trans e) f0 f1 f3 f4 f5
  obtain ⟨o, e, c, d⟩ := id st'
  exact ⟨_, rfl, zi5 (s := { s with heap := h', toks := s.toks + 1 }) e c d (by decide) ⟨.str ⟨#[x.cps[i]]⟩, H, I1, ⟨_, rfl⟩, ⟨rfl, by rw [List.getElem?_map, Array.getElem?_toList, Array.getElem?_eq_getElem hg]; rfl⟩, st', fun b hb => (hf b hb).1⟩⟩
 done := by
  intro X hP hw hK hc i pins s σ H E I hf st hg
  subst hP hw hK
  have hg : (x.cps.toList.map fun c => V.str ⟨#[c]⟩).length ≤ i := hg
  rw [List.length_map, Array.length_toList] at hg
  obtain ⟨f0, f1, f2, f3, f4, f5⟩ := hf it (by simp)
  exact wpAny_pyNext_ascii_end (I.ok.hd hc) st (by simpa using hg) fun h' eb => ⟨rfl, I.turned (t' := s.toks) (fun b o hb e => eb b o hb e) f0 f1 f3 f4 f5⟩
 self := fun _ _ _ _ _ st h => wpAny_pyIter_striter_ascii st h
theorem zfj {P : Program} {w : World} {K : PySem.W.Frag} {tg : Expr} (it : Addr) (x : Str) (t : Tok) : Turn P w K tg (Itv (x.cps.toList.map fun c => V.str ⟨#[c]⟩)) [it] it (fun i h => h.IsStrIter it "str_iterator" x t i) where
 mem := by simp
 obj := fun i h st b hb => by
  have e : b = it := by simpa using hb
  subst e
  obtain ⟨o, e, c, d⟩ := st
  exact ⟨o, e, fun v z => by rw [d] at z; cases z⟩
 keep := fun i h h' st k => let ⟨o, ho, r⟩ := st; ⟨o, k it (by simp) o ho, r⟩
 item := by
  intro X hP hw hK hc i pins s σ H E I hf st hg
  subst hP hw hK
  have hg : i < (x.cps.toList.map fun c => V.str ⟨#[c]⟩).length := hg
  rw [List.length_map, Array.length_toList] at hg
  obtain ⟨f0, f1, f2, f3, f4, f5⟩ := hf it (by simp)
  refine wpAny_pyNext_wide_item st (c := x.cps[i]) (by simp [hg]) fun h' st' sb => ?_
  have I1 : Inv X pins σ H { s with heap := h', toks := s.toks + 1 } := I.turned (fun b o hb e => (sb.2 b hb).trans e) f0 f1 f3 f4 f5
  obtain ⟨o, e, c, d⟩ := id st'
  exact ⟨_, rfl, zi5 (s := { s with heap := h', toks := s.toks + 1 }) e c d (by decide) ⟨.str ⟨#[x.cps[i]]⟩, H, I1, ⟨_, rfl⟩, ⟨rfl, by rw [List.getElem?_map, Array.getElem?_toList, Array.getElem?_eq_getElem hg]; rfl⟩, st', fun b hb => (hf b hb).1⟩⟩
 done := by
  intro X hP hw hK hc i pins s σ H E I hf st hg
  subst hP hw hK
  have hg : (x.cps.toList.map fun c => V.str ⟨#[c]⟩).length ≤ i := hg
  rw [List.length_map, Array.length_toList] at hg
  obtain ⟨f0, f1, f2, f3, f4, f5⟩ := hf it (by simp)
  exact wpAny_pyNext_wide_end (I.ok.hd hc) st (by simpa using hg) fun h' eb => ⟨rfl, I.turned (t' := s.toks) (fun b o hb e => eb b o hb e) f0 f1 f3 f4 f5⟩
 self := fun _ _ _ _ _ st h => wpAny_pyIter_striter_wide st h
section
variable {X : Cx} {tg : Expr}
def signs (x : Str) : List V := x.cps.toList.map fun c => V.str ⟨#[c]⟩
def iStr (tl : TE) : TI := fun σ H R => tl σ H fun v H1 => ∃ x, v = .str x ∧ R (Itv (signs x)) H1
theorem zj6 {l : Expr} {tl : TE} (hl : PE X l tl) : PI X tg l (iStr tl) := by
 intro pins s σ H R I h
 refine thn (hl pins s σ H _ I h) fun v s1 ⟨y, H1, I1, r1, q1⟩ => ?_
 obtain ⟨x, e, q⟩ := q1
 subst e
 obtain ⟨t, rfl⟩ := r1
 cases ha : x.cps.all (· < 128)
 · refine wpAny_pyIter_wide ha ?_
   refine ⟨s1.heap.objs.size, [s1.heap.objs.size], _, _, H1, rfl, I1.kept (t' := s1.toks) fun b o e => Heap.get?_push_of_some _ e, zfj _ x t, ⟨_, Heap.get?_push_size _ rfl, rfl, rfl⟩, fun b hb => ?_, q⟩
   have e : b = s1.heap.objs.size := by simpa using hb
   subst e
   exact I1.fpOk (Nat.le_refl _) (I1.hok.fresh (Nat.le_refl _))
 · refine wpAny_pyIter_ascii ha ?_
   refine ⟨s1.heap.objs.size, [s1.heap.objs.size], _, _, H1, rfl, I1.kept (t' := s1.toks) fun b o e => Heap.get?_push_of_some _ e, zeB _ x t, ⟨_, Heap.get?_push_size _ rfl, rfl, rfl⟩, fun b hb => ?_, q⟩
   have e : b = s1.heap.objs.size := by simpa using hb
   subst e
   exact I1.fpOk (Nat.le_refl _) (I1.hok.fresh (Nat.le_refl _))
theorem zcW : OpR X (compareOp .LtE) (fun x y H Q => ∃ i j, x = .str i ∧ y = .str j ∧ Q (.bl (!decide (j.cps.toList < i.cps.toList))) H) := by
 intro pins s σ H x y v u Q I rx ry h
 obtain ⟨i, j, rfl, rfl, q⟩ := h
 obtain ⟨t, rfl⟩ := rx
 obtain ⟨t', rfl⟩ := ry
 exact PySem.P.le_str (zaB I q rfl)
theorem zcD (hc : X.calm = true) : zdg X (.builtin "all") (fun xs H Q => ∃ (a : Addr) (bs : List Bool), xs = [.ref a] ∧ SqL X.K H a (bs.map V.bl) ∧ Q (.bl (bs.all id)) H) := by
 intro pins s σ H xs us Q I r h
 obtain ⟨a, bs, rfl, hq, q⟩ := h
 obtain ⟨u, rfl, ru⟩ := zc3 r
 cases ru
 obtain ⟨its, rv, p, hzz⟩ := I.list hq
 have ll := rv.length
 rw [List.length_map] at ll
 refine call_all_walk (wpAny_pyIter_list p.isList ?_)
 obtain ⟨o, ho, _⟩ := id p.isList
 have lt := Heap.lt_size ho
 refine ⟨s.heap.objs.size, _, _, _, _, _, fun i => bs.getD i false, rfl, Walks.list (A := X.A.in1) (I.ok.hd hc) s.heap.objs.size a (Nat.ne_of_lt lt) its.toArray, ⟨⟨_, Heap.get?_push_size _ rfl, rfl, rfl⟩, p.isList.at fun o' e => Heap.get?_push_of_some _ e⟩, ?_, fun g t' k => ?_⟩
 · intro i v s' Q' E' hv q'
   have hi : its[i]? = some v := by simpa using hv
   have hl : i < its.length := (List.getElem?_eq_some_iff.mp hi).1
   have e : (bs.map V.bl)[i]? = some (.bl (bs.getD i false)) := by
    rw [List.getElem?_map, List.getElem?_eq_getElem (by omega), List.getD_eq_getElem?_getD, List.getElem?_eq_getElem (by omega)]
    rfl
   obtain ⟨u, h1, h2⟩ := Vals.get rv e
   rw [hi] at h1
   cases h1
   cases h2
   exact wpAny_truthy_bool q'
 · refine ⟨.bl (bs.all id), H, I.kept (fun b o' e => k b o' ?_ (Heap.get?_push_of_some _ e)), ?_, q⟩
   · intro z
     exact absurd (List.mem_singleton.mp z) (Nat.ne_of_lt (Heap.lt_size e))
   · show Value.bool _ = Value.bool _
     congr 1
     rw [List.size_toArray, ← ll]
     clear rv ll hq q p ho lt hzz
     induction bs with
     | nil => rfl
     | cons b r ih =>
      rw [List.length_cons, List.range_succ_eq_map, List.all_cons, List.all_map, List.all_cons, ← ih]
      rfl
end
theorem zkc {xs : List V} {p : Addr} {g : TG} {tc : TT} {te : TE} {σ : St} {H : Hp} {Q : VK} {js : Cap} (Pv : Nat → St → List V → Hp → Prop) (h0 : Pv 0 (inn js σ) [] (upd H p (.lst [])))
 (hl : ∀ i σ ys H, i ≤ xs.length → Pv i σ ys H → H p = some (.lst ys) ∧ ys.length < sizeLine)
 (hs : ∀ (i : Nat) x σ ys H (N : St → List V → Hp → Prop), xs[i]? = some x → Pv i σ ys H → (∀ σ' ys' H', Pv (i + 1) σ' ys' H' → N σ' ys' H') → zey p g tc te ys x σ H N)
 (hd : ∀ σ ys H, Pv xs.length σ ys H → Q (.ref p) H) : zcn (Itv xs) p js g tc te σ H Q :=
 zfD (n := xs.length) (J := Itv xs) (js := js) (σ := σ) (H := H) (p := p) (Q := Q) (g := g) (tc := tc) (te := te) Pv h0 hl
  (fun i σ ys H hi pv => hi) (fun σ ys H pv => Nat.le_refl _)
  (fun i x σ ys H H' N hi y pv hN => by
   obtain ⟨e, y⟩ := y
   subst e
   exact hs i x σ ys _ N y pv hN) hd
section
variable {prog : Program} {w : World} {A : Around} {E : Value → Shared → Prop} {R : Result → Shared → Prop} {s : Shared}
theorem zfH {kx vx target iter : Expr} {ifs : List Expr} {scope : Scope} {pos : Pos} {it : Value} {D : Addr} {env : Env} (I : Nat → Shared → Prop)
 (turn : ∀ n s, I n s → wpAny (model prog w) A (pyNext it) (fun r s₁ => match r with
  | none => R (.ok .next) s₁
  | some v => wpAny (model prog w) A (letOwnedTupleGo target it v) (fun _ s₁' => wpAny (model prog w) A (assign target env v) (fun _ s₂ =>
   wpAny (model prog w) A (forIn ifs true fun c r => if r = true then do let ok ← isTrue c env (eval c env); pure (ForInStep.yield ok) else pure (ForInStep.yield r)) (fun ok s₃ =>
    if ok = true then wpAny (model prog w) A (eval kx env) (fun kv s₄ => wpAny (model prog w) A (eval vx env) (fun vv s₅ =>
     wpAny (model prog w) A (dictSet D kv vv) (fun _ s₆ => ∃ m, m < n ∧ I m s₆) (fun _ _ => False) s₅) (fun _ _ => False) s₄) (fun _ _ => False) s₃
    else ∃ m, m < n ∧ I m s₃) (fun _ _ => False) s₂) (fun _ _ => False) s₁') (fun _ _ => False) s₁) (fun _ _ => False) s)
 (n : Nat) (h : I n s) :
 codeAny (model prog w) A (.compLoop (.DictComp kx vx [⟨target, iter, ifs, 0⟩] scope pos) 0 it (.ref D) env) R s := by
 refine codeAny_loop rfl I (fun n s hI => ?_) n h
 show wpAny _ A ((compTurn (.DictComp kx vx [⟨target, iter, ifs, 0⟩] scope pos) 0 it (.ref D) env).onRaise (fun x => do noteFrame x env; theTreesLotGoes x)) _ _ s
 refine wpAny_noted ?_
 rw [compTurn_dict]
 refine wpAny_bind (wpAny_standAt (wpAny_bind (wpAny_mono (turn n s hI) (fun r s₁ h₁ => ?_) fun _ _ z => z.elim)))
 cases r with
 | none => exact wpAny_pure h₁
 | some v =>
  refine wpAny_bind (wpAny_mono h₁ (fun _ s₁' h₁' => ?_) fun _ _ z => z.elim)
  refine wpAny_bind (wpAny_mono h₁' (fun _ s₂ h₂ => wpAny_bind (wpAny_mono h₂ (fun ok s₃ h₃ => ?_) fun _ _ z => z.elim)) fun _ _ z => z.elim)
  cases ok with
  | false => exact wpAny_pure ⟨rfl, h₃⟩
  | true =>
   exact wpAny_bind (wpAny_bind (wpAny_mono h₃ (fun kv s₄ h₄ => wpAny_bind (wpAny_holding (wpAny_mono h₄ (fun vv s₅ h₅ => wpAny_bind (wpAny_standAt (wpAny_holding (wpAny_mono h₅ (fun _ s₆ h₆ => wpAny_pure ⟨rfl, h₆⟩) fun _ _ z => z.elim)))) fun _ _ z => z.elim)) ) fun _ _ z => z.elim))
end
def zjm (J : It) (p : Addr) (js : Cap) (g : TG) (tc : TT) (tk tv : TE) (σ : St) (H : Hp) (Q : VK) : Prop :=
 ∃ W : Nat → Nat → St → List (Key × V) → Hp → Prop, (∃ m, W 0 m (inn js σ) [] (upd H p (.dK []))) ∧ ∀ i m σ' kvs H, W i m σ' kvs H → H p = some (.dK kvs) ∧
  ((J.stop i H ∧ Q (.ref p) H) ∨ (J.go i H ∧ kvs.length < sizeLine ∧ ∀ x H', J.yld i H x H' → g x σ' H' fun σ2 H2 => tc σ2 H2 fun b H3 =>
    if b = true then tk σ2 H3 fun k H4 => tv σ2 H4 fun y H5 => ∃ ky, k = kV ky ∧ H5 p = some (.dK kvs) ∧ ∃ m', m' < m ∧ W (i + 1) m' σ2 (putK kvs ky y) (upd H5 p (.dK (putK kvs ky y)))
    else ∃ m', m' < m ∧ W (i + 1) m' σ2 kvs H3))
def tDC (wi : TI) (js : Cap) (g : TG) (tc : TT) (tk tv : TE) : TE := fun σ H Q => wi σ H fun J H1 => ∀ p, H1 p = none → zjm J p js g tc tk tv σ H1 Q
section
variable {X : Cx} {tg iter kx vx : Expr} {ifs : List Expr} {wi : TI} {js : Cap} {g : TG} {tc : TT} {tk tv : TE} {N' : List Str} {scope : Scope} {pos : Pos}
theorem zjU {pins : List (Addr × Obj)} {σ : St} {H : Hp} {s : Shared} {E : Value → Shared → Prop} {Q : VK} {J : It} {it : Addr} {fp : List Addr} {tn : Nat → Heap → Prop} {cl : List (Str × Addr)}
 (hc : X.calm = true) (ok : CapOk X N' js scope)
 (h2 : ∀ x c, cl.lookup x = some c → X.env.cells.lookup x = some c) (h3 : ∀ p ∈ scope.names, p.2 = .free → (cl.lookup p.1).isSome = true)
 (hg : ∀ cl C s₀ H₀ ex, PG (lcx X N' scope cl C s₀ H₀ ex) tg g) (ht : ∀ cl C s₀ H₀ ex, PIfs (lcx X N' scope cl C s₀ H₀ ex) ifs tc) (he : ∀ cl C s₀ H₀ ex, PE (lcx X N' scope cl C s₀ H₀ ex) kx tk) (hv : ∀ cl C s₀ H₀ ex, PE (lcx X N' scope cl C s₀ H₀ ex) vx tv)
 (I : Inv X pins σ H s) (T : Turn X.prog X.w X.K tg J fp it tn) (st : tn 0 s.heap) (hf : ∀ b ∈ fp, FpOk X pins H b)
 (hw : ∀ p, H p = none → zjm J p js g tc tk tv σ H Q) :
 wpAny (model X.prog X.w) X.A newDict (fun acc s₃ => wpAny (model X.prog X.w) X.A (newFunctionEnv scope X.env.globals cl [] X.env.qual none .none (some X.env)) (fun cenv s₄ =>
  codeAny (model X.prog X.w) X.A (.compStart (.DictComp kx vx [⟨tg, iter, ifs, 0⟩] scope pos) 0 (.ref it) acc { cenv with scope := relabel scope X.env })
   (fun r s' => r = .ok .next ∧ (∃ m, s'.heap.Ns cenv.locals m) ∧ ∃ v H', RelV v acc ∧ Inv X pins σ H' s' ∧ FpOk X pins H' cenv.locals ∧ Q v H') s₄) E s₃) E s := by
 have objs := T.obj _ _ st
 refine wpAny_newObj_type ?_
 obtain ⟨W, ⟨m0, w0⟩, turn⟩ := hw s.heap.objs.size (I.hok.fresh (Nat.le_refl _))
 generalize hp : s.heap.objs.size = p at *
 have kp : ∀ b u, s.heap.get? b = some u → (s.heap.push { cls := .type "dict", data := .dict #[] }).get? b = some u := fun b u e => Heap.get?_push_of_some _ e
 have I3 : Inv X pins σ (upd H p (.dK [])) { s with heap := s.heap.push { cls := .type "dict", data := .dict #[] } } := by
  subst hp
  exact I.laid (t' := s.toks) kp (Nat.le_refl _) (zjT s.heap I.big)
 have fne : ∀ b ∈ fp, b ≠ p := fun b hb => by
  obtain ⟨o, e, _⟩ := objs b hb
  have := Heap.lt_size e
  rw [← hp]
  exact Nat.ne_of_lt this
 have hf3 : ∀ b ∈ fp, FpOk X pins (upd H p (.dK [])) b := fun b hb => ⟨by rw [zak (fne b hb)]; exact (hf b hb).1, (hf b hb).2⟩
 have st3 : tn 0 (s.heap.push { cls := .type "dict", data := .dict #[] }) := T.keep _ _ _ st fun b _ o e => kp b o e
 have lt3 : ∀ b ∈ fp, b < (s.heap.push { cls := .type "dict", data := .dict #[] }).objs.size := fun b hb => by
  obtain ⟨o, e, _⟩ := objs b hb
  exact Heap.lt_size (kp b o e)
 generalize hs3 : ({ s with heap := s.heap.push { cls := .type "dict", data := .dict #[] } } : Shared) = s3 at *
 have eh : s.heap.push { cls := .type "dict", data := .dict #[] } = s3.heap := by rw [← hs3]
 rw [eh] at st3 lt3
 refine wpAny_newFunctionEnv ok.ncell (by intro y hy; simp at hy) (fun h₁ hns₁ hsb₁ => ?_) ok.kind
 try dsimp only at hns₁ hsb₁ ⊢
 have k4 : ∀ b u, s3.heap.get? b = some u → h₁.get? b = some u := fun b u e => (hsb₁.2 b (Nat.ne_of_lt (Heap.lt_size e))).trans (Heap.get?_push_of_some _ e)
 have I4 := zd6 (cl := cl) (h₁ := h₁) (t' := s3.toks + ([] : List (Str × Value)).length) ok I3 h2 h3 hf3 lt3 k4 ⟨_, hns₁⟩
 have st4 : tn 0 h₁ := T.keep _ _ _ st3 fun b _ o e => k4 b o e
 generalize hX : lcx X N' scope cl s3.heap.objs.size s3 (upd H p (.dK [])) fp = X' at I4
 have hg' : PG X' tg g := by rw [← hX]; exact hg _ _ _ _ _
 have ht' : PIfs X' ifs tc := by rw [← hX]; exact ht _ _ _ _ _
 have he' : PE X' kx tk := by rw [← hX]; exact he _ _ _ _ _
 have hv' : PE X' vx tv := by rw [← hX]; exact hv _ _ _ _ _
 have eP : X'.prog = X.prog := by rw [← hX]; rfl
 have ew : X'.w = X.w := by rw [← hX]; rfl
 have eK : X'.K = X.K := by rw [← hX]; rfl
 have ec : X'.calm = true := by rw [← hX]; exact hc
 have eA : X'.A = X.A := by rw [← hX]; rfl
 have ex : X'.xe = fun _ _ => False := by rw [← hX]; rfl
 have eE : X'.env = compEnvC scope cl s3.heap.objs.size X.env := by rw [← hX]; rfl
 have eEx : X'.ex = fp := by rw [← hX]; rfl
 have eN : X'.pn = [] := by rw [← hX]; rfl
 have stat : ∀ {H' : Hp}, (∀ b ∈ fp, H' b = none) → ∀ b ∈ fp, FpOk X' [] H' b := fun {H'} hn b hb => by
  have okc := I4.ok
  refine ⟨hn b hb, (okc.exf b (by rw [eEx]; exact hb)).1, okc.exfs b (by rw [eEx]; exact hb), .inl (by rw [eEx]; exact hb), (okc.exf b (by rw [eEx]; exact hb)).2, fun q hq => ?_⟩
  rw [eN] at hq
  cases hq
 have loop : ∀ s₄ : Shared, s₄ = { s3 with heap := h₁, toks := s3.toks + ([] : List (Str × Value)).length } →
  codeAny (model X.prog X.w) X.A (.compLoop (.DictComp kx vx [⟨tg, iter, ifs, 0⟩] scope pos) 0 (.ref it) (.ref p) (compEnvC scope cl s3.heap.objs.size X.env))
   (fun r s' => r = .ok .next ∧ (∃ m, s'.heap.Ns s3.heap.objs.size m) ∧ ∃ v H', RelV v (.ref p) ∧ Inv X pins σ H' s' ∧ FpOk X pins H' s3.heap.objs.size ∧ Q v H') s₄ := by
  rintro s₄ rfl
  refine zfH (fun n s' => ∃ i σ' ys H', Inv X' [] σ' H' s' ∧ tn i s'.heap ∧ (∀ b ∈ fp, H' b = none) ∧ W i n σ' ys H') ?_ m0 ⟨0, _, [], _, I4, st4, fun b hb => (hf3 b hb).1, w0⟩
  rintro n s5 ⟨i, σ5, ys, H5, I5, st5, fr5, w5⟩
  obtain ⟨hp5, tu⟩ := turn i n σ5 ys H5 w5
  rcases tu with ⟨stop, qn⟩ | ⟨go, hz, step⟩
  · have D := T.done X' eP ew eK ec i [] s5 σ5 H5 (fun _ _ => False) I5 (stat fr5) st5 stop
    rw [eA] at D
    refine thn D fun r s6 ⟨hr, I6⟩ => ?_
    subst hr
    refine ⟨rfl, ?_, .ref p, H5, rfl, ?_, ?_, qn⟩
    · obtain ⟨m, hm, _⟩ := I6.loc
      rw [eE] at hm
      exact ⟨m, hm⟩
    · have b6 := I6.base
      have ho := I6.os
      have hk := I6.hok
      have hb := I6.bare
      subst hX
      exact I3.call' (ch := fp) ho b6 hk hb fun b hb' => ⟨(hf b hb').2.2.2.1, (hf b hb').2.1, (hf b hb').2.2.2.2.1, (hf b hb').2.2.2.2.2⟩
    · have fr := I6.free
      rw [eE] at fr
      exact I3.fpOk (Nat.le_refl _) fr
  · have D := T.item X' eP ew eK ec i [] s5 σ5 H5 (fun _ _ => False) I5 (stat fr5) st5 go
    rw [eA] at D
    refine thn D fun r s6 ⟨u, hr, h6⟩ => ?_
    subst hr
    refine thn h6 fun _ s7 ⟨x, H7, I7, r7, y7, st7, fr7⟩ => ?_
    have I7' := I7.pinned (stat fr7) (T.obj _ _ st7)
    have G := hg' _ s7 σ5 H7 x u _ I7' r7 (step x H7 y7)
    rw [eP, ew, eA, ex, eE] at G
    refine thn G fun _ s8 ⟨σ8, H8, I8, q8⟩ => ?_
    have Tt := ht' _ s8 σ8 H8 _ I8 q8
    rw [eP, ew, eA, ex, eE] at Tt
    refine thn Tt fun b s9 ⟨H9, I9, q9⟩ => ?_
    have again : ∀ {s' : Shared} {ys' : List (Key × V)} {H' : Hp}, Inv X' ([] ++ zcT fp s7.heap) σ8 H' s' → (∃ m', m' < n ∧ W (i + 1) m' σ8 ys' H') →
     ∃ m, m < n ∧ ∃ i σ' ys H', Inv X' [] σ' H' s' ∧ tn i s'.heap ∧ (∀ b ∈ fp, H' b = none) ∧ W i m σ' ys H' := fun {s' ys' H'} I' ⟨m', hm, w'⟩ => by
     refine ⟨m', hm, i + 1, σ8, ys', H', I'.unpinned, T.keep _ _ _ st7 fun b hb o e => (I'.pin (b, o) (List.mem_append_right _ (List.mem_append_right _ (za2 hb e)))).1, fun b hb => ?_, w'⟩
     obtain ⟨o, e, d⟩ := T.obj _ _ st7 b hb
     exact (I'.pin (b, o) (List.mem_append_right _ (List.mem_append_right _ (za2 hb e)))).2.1
    cases b with
    | false => exact again I9 q9
    | true =>
     have Ee := he' _ s9 σ8 H9 _ I9 q9
     rw [eP, ew, eA, ex, eE] at Ee
     show wpAny _ _ _ _ _ _
     refine thn Ee fun kv s10 ⟨kk, H10, I10, r10, q10⟩ => ?_
     have Ev := hv' _ s10 σ8 H10 _ I10 q10
     rw [eP, ew, eA, ex, eE] at Ev
     refine thn Ev fun vv s11 ⟨y, H11, I11, r11, ky, ek, hp11, q11⟩ => ?_
     subst ek
     obtain ⟨z0, hd0, vs0, rel0, dd0⟩ := zeh I11.hok hp11
     have hz0 : vs0.length ≤ sizeLine := by rw [← rel0.length]; exact z0
     have hl0 : (putK ys ky y).length ≤ sizeLine := by have := zd3 ys ky y; omega
     rw [eP, ew] at dd0
     refine wpAny_dictSet_pairs (hsz := hz0) (ziT r10) dd0 fun h' dd' hs' => ?_
     have he0 : ∃ q, h'.get? p = some q := let ⟨q, _, _, hq, _⟩ := dd'; ⟨q, hq⟩
     have I12 := zkW (t' := s11.toks + 1) I11 (by rw [hp11]; exact True.intro) hs' he0 (zlT hl0 hd0 (rel0.put ky r11) (by rw [eP, ew]; exact dd'))
     exact again I12 q11
 exact codeAny_compStart_dict (loop _ rfl) (T.self _ 0 _ _ _ st4 (loop _ rfl))
theorem zml (hc : X.calm = true) (ok : CapOk X N' js scope) (hi : PI X tg iter wi)
 (hg : ∀ cl C s₀ H₀ ex, PG (lcx X N' scope cl C s₀ H₀ ex) tg g) (ht : ∀ cl C s₀ H₀ ex, PIfs (lcx X N' scope cl C s₀ H₀ ex) ifs tc) (he : ∀ cl C s₀ H₀ ex, PE (lcx X N' scope cl C s₀ H₀ ex) kx tk) (hv : ∀ cl C s₀ H₀ ex, PE (lcx X N' scope cl C s₀ H₀ ex) vx tv)
 (hs : ∀ x, foldedSetIterable iter X.env x = pure x := by intro _; rfl) : PE X (.DictComp kx vx [⟨tg, iter, ifs, 0⟩] scope pos) (tDC wi js g tc tk tv) := by
 intro pins s σ H Q I h
 obtain ⟨cl, c1, c2, c3⟩ := ze9 (scope := scope) I.ok.has ok.free
 show wpAny _ X.A (comprehension (.DictComp kx vx [⟨tg, iter, ifs, 0⟩] scope pos) scope X.env _ newDict false (eval iter X.env)) _ _ s
 refine wpAny_comprehension_free (use := none) rfl hs c1 ok.kind ok.names (thn (hi pins s σ H _ I h) fun v s1 h1 => thn h1 fun itv s2 h2 => ?_)
 obtain ⟨it, fp, tn, J, H2, e, I2, T, st2, f2, hw⟩ := h2
 subst e
 refine wpAny_mono (zjU (iter := iter) (pos := pos) hc ok c2 c3 hg ht he hv I2 T st2 f2 hw) (fun acc s3 h3 => wpAny_mono h3 (fun cenv s4 h4 => ?_) fun _ _ z => z) fun _ _ z => z
 refine codeAny_mono h4 fun r s5 h5 => ?_
 obtain ⟨rfl, ⟨m, hm⟩, v, H5, rv, I5, f5, q5⟩ := h5
 refine ⟨m, hm, fun h' sb => ?_⟩
 obtain ⟨f0, f1, _, f3, f4, f6⟩ := f5
 exact ⟨v, H5, I5.turned (t' := s5.toks) (fun b o hb e => (sb.2 b hb).trans e) f0 f1 f3 f4 f6, rv, q5⟩
end
section
variable {prog : Program} {w : World} {A : Around} {E : Value → Shared → Prop} {s : Shared}
theorem zgG {ti tp : Addr} {k : Nat} {vs : Array Value} {v : Value} {Q : Value → Shared → Prop} (hi : s.heap.IsTupleIter ti tp k) (ht : s.heap.IsTuple tp vs) (hv : vs[k]? = some v)
 (fin : ∀ g, g.IsTupleIter ti tp (k + 1) → Heap.SameBut ti s.heap g → Q v { s with heap := g }) : wpAny (model prog w) A (Builtin.SmallTypes.nextOf (.ref ti)) Q E s := by
 obtain ⟨oi, e1, c1, d1⟩ := id hi
 obtain ⟨ot, e2, _, nt, d2⟩ := ht
 unfold Builtin.SmallTypes.nextOf
 refine wpAny_bind (wpAny_callSpecial?_slot (name := Str.ofString "__next__") hi.typeIs PySem.F.slot_tuple_iterator_next (wpAny_call_entry PySem.F.slot_tuple_iterator_next hi.typeIs PySem.F.entry_tuple_iterator_next ?_ (PySem.F.args_tuple_iterator_next_1 _)))
 show wpAny _ _ (field (.ref ti) 0 >>= _) _ _ s
 refine wpAny_bind (wpAny_field e1 d1 (x := .ref tp) rfl ?_)
 show wpAny _ _ (if (Value.ref tp == Value.none) = true then _ else _) _ _ s
 rw [if_neg (show ¬ ((Value.ref tp == Value.none) = true) from Bool.false_ne_true)]
 show wpAny _ _ (field (.ref ti) 1 >>= _) _ _ s
 refine wpAny_bind (wpAny_field e1 d1 (x := .int k 0) rfl ?_)
 show wpAny _ _ (seqItems? (.ref tp) >>= _) _ _ s
 refine wpAny_bind (wpAny_seqItems e2 d2 ?_)
 simp only [Int.toNat_natCast, hv]
 refine wpAny_bind (wpAny_setField e1 d1 (by simp) (wpAny_pure ⟨v, rfl, wpAny_pure (fin _ ?_ (Heap.SameBut.update ..))⟩))
 exact ⟨_, Heap.get?_update_self _ e1 (Obj.isFreed_of_fields (Obj.data_mapFields d1 _)), (Obj.cls_mapFields ..).trans c1, by rw [Obj.data_mapFields d1]; simp [rawInt]⟩
theorem zkb {ti tp : Addr} {k : Nat} {vs : Array Value} {Q : Value → Shared → Prop} (hh : A.handled = none) (hi : s.heap.IsTupleIter ti tp k) (ht : s.heap.IsTuple tp vs) (hv : vs[k]? = none)
 (fin : ∀ g e, Heap.ExtBut ti s.heap g → (∃ o, g.get? e = some o ∧ o.cls = .type "StopIteration") → E (.ref e) { s with heap := g }) : wpAny (model prog w) A (Builtin.SmallTypes.nextOf (.ref ti)) Q E s := by
 obtain ⟨oi, e1, c1, d1⟩ := id hi
 obtain ⟨ot, e2, _, nt, d2⟩ := ht
 unfold Builtin.SmallTypes.nextOf
 refine wpAny_bind (wpAny_callSpecial?_slot (name := Str.ofString "__next__") hi.typeIs PySem.F.slot_tuple_iterator_next (wpAny_call_entry PySem.F.slot_tuple_iterator_next hi.typeIs PySem.F.entry_tuple_iterator_next ?_ (PySem.F.args_tuple_iterator_next_1 _)))
 show wpAny _ _ (field (.ref ti) 0 >>= _) _ _ s
 refine wpAny_bind (wpAny_field e1 d1 (x := .ref tp) rfl ?_)
 show wpAny _ _ (if (Value.ref tp == Value.none) = true then _ else _) _ _ s
 rw [if_neg (show ¬ ((Value.ref tp == Value.none) = true) from Bool.false_ne_true)]
 show wpAny _ _ (field (.ref ti) 1 >>= _) _ _ s
 refine wpAny_bind (wpAny_field e1 d1 (x := .int k 0) rfl ?_)
 show wpAny _ _ (seqItems? (.ref tp) >>= _) _ _ s
 refine wpAny_bind (wpAny_seqItems e2 d2 ?_)
 simp only [Int.toNat_natCast, hv]
 refine wpAny_bind (wpAny_rule (wpAny_bind (wpAny_setField e1 d1 (by simp) ?_)))
 show wpAny _ _ (newExc (.type "StopIteration") [] >>= _) _ _ _
 refine wpAny_bind ?_
 simp only [newExc, newTuple]
 refine wpAny_bind (wpAny_newObj_type ?_ (by size_fits))
 refine wpAny_bind (m := firstArgMember _ _) (wpAny_of_eq (a := Value.none) (by first | rfl | (simp only [firstArgMember]; rfl)) ?_)
 refine wpAny_newObj_type ?_ (by size_fits)
 simp only [raiseNew]
 refine wpAny_bind (wpAny_handled ?_)
 first | rw [show A.in1.handled = none from hh] | rw [hh]
 refine wpAny_bind (wpAny_pure (wpAny_throw ?_))
 exact fin _ _ (((Heap.SameBut.update ..).extBut.push _).push _) ⟨_, Heap.get?_push_size _ rfl, rfl⟩
structure ZA (z a b i j : Addr) : Prop where
 az : a ≠ z
 bz : b ≠ z
 iz : i ≠ z
 jz : j ≠ z
 ab : a ≠ b
 ai : a ≠ i
 aj : a ≠ j
 bi : b ≠ i
 bj : b ≠ j
 ij : i ≠ j
theorem zb6 {h h' : Heap} {t c : Addr} {vs : Array Value} (x : h.IsTuple t vs) (hs : Heap.SameBut c h h') (n : t ≠ c) : h'.IsTuple t vs := x.extBut hs.extBut n
theorem zkl {z a b i j t1 t2 : Addr} {k1 k2 : Nat} {xs ys : Array Value} {x y p q : Value} {Q : Value → Shared → Prop} (D : ZA z a b i j) (n1 : t1 ≠ z ∧ t1 ≠ b ∧ t1 ≠ i ∧ t1 ≠ j) (n2 : t2 ≠ z ∧ t2 ≠ b ∧ t2 ≠ i ∧ t2 ≠ j)
 (hz : IsZip s.heap z a b .none) (ha : IsPair s.heap a (.ref i) (.ref j)) (hb : IsPair s.heap b p q) (h1 : s.heap.IsTupleIter i t1 k1) (h2 : s.heap.IsTupleIter j t2 k2) (g1 : s.heap.IsTuple t1 xs) (g2 : s.heap.IsTuple t2 ys) (hx : xs[k1]? = some x) (hy : ys[k2]? = some y)
 (fin : ∀ g, IsZip g z a b (rawInt s.heap.objs.size) → IsPair g b x y → g.IsTupleIter i t1 (k1 + 1) → g.IsTupleIter j t2 (k2 + 1) → IsPair g s.heap.objs.size x y →
  (∀ c o, c ≠ z → c ≠ b → c ≠ i → c ≠ j → s.heap.get? c = some o → g.get? c = some o) → Q (.ref s.heap.objs.size) { s with heap := g }) :
 wpAny (model prog w) A (Builtin.«zip.__next__» ⟨[.ref z], []⟩) (fun r s' => ∃ v, r = .done (.ret v) ∧ Q v s') E s := by
 show wpAny _ _ (field (.ref z) 2 >>= _) _ _ _
 refine wpAny_bind (wpAny_field hz rfl (x := .bool false) rfl ?_)
 show wpAny _ _ (field (.ref z) 3 >>= _) _ _ _
 refine wpAny_bind (wpAny_field hz rfl (x := .ref a) rfl ?_)
 refine wpAny_bind (wpAny_seqItems ha rfl ?_)
 show wpAny _ _ (Builtin.SmallTypes.ownedTupleIsFree (.ref z) >>= _) _ _ _
 refine wpAny_bind ?_
 unfold Builtin.SmallTypes.ownedTupleIsFree
 refine wpAny_bind (wpAny_field hz rfl (x := .none) rfl (wpAny_pure ?_))
 simp only [if_true]
 refine wpAny_bind (wpAny_rule ?_)
 refine wpAny_bind (wpAny_field hz rfl (x := .ref b) rfl ?_)
 refine wpAny_bind (wpAny_setField_rec hz (by simp) fun w1 z1 m1 => ?_)
 replace z1 : IsZip w1 z a b .ellipsis := z1
 refine wpAny_bind ?_
 simp only [List.zipIdx_cons, List.zipIdx_nil, List.forIn_cons, List.forIn_nil]
 refine wpAny_bind (wpAny_bind (wpAny_onRaise ?_))
 show wpAny _ _ (Builtin.SmallTypes.nextOf (.ref i) >>= _) _ _ _
 refine wpAny_bind (zgG (h1.extBut m1.extBut D.iz) (zb6 g1 m1 n1.1) hx fun w2 i2 m2 => wpAny_pure ?_)
 have b2 : IsPair w2 b p q := m2.extBut _ _ D.bi (m1.extBut _ _ D.bz hb)
 refine wpAny_bind (wpAny_seqItems b2 rfl ?_)
 refine wpAny_bind (wpAny_updateSeq_pair b2 fun w3 b3 m3 => ?_)
 replace b3 : IsPair w3 b x q := b3
 refine wpAny_bind (wpAny_letGo (wpAny_pure ?_))
 refine wpAny_bind (wpAny_bind (wpAny_onRaise ?_))
 show wpAny _ _ (Builtin.SmallTypes.nextOf (.ref j) >>= _) _ _ _
 refine wpAny_bind (zgG (((h2.extBut m1.extBut D.jz).extBut m2.extBut D.ij.symm).extBut m3.extBut D.bj.symm) (zb6 (zb6 (zb6 g2 m1 n2.1) m2 n2.2.2.1) m3 n2.2.1) hy fun w4 j4 m4 => wpAny_pure ?_)
 have b4 : IsPair w4 b x q := m4.extBut _ _ D.bj b3
 refine wpAny_bind (wpAny_seqItems b4 rfl ?_)
 refine wpAny_bind (wpAny_updateSeq_pair b4 fun w5 b5 m5 => ?_)
 replace b5 : IsPair w5 b x y := b5
 refine wpAny_bind (wpAny_letGo (wpAny_pure (wpAny_pure ?_)))
 refine wpAny_bind (wpAny_seqItems b5 rfl ?_)
 refine wpAny_bind (wpAny_newTuple ?_)
 have sz : w5.objs.size = s.heap.objs.size := by rw [m5.1, m4.1, m3.1, m2.1, m1.1]
 have z5 : IsZip w5 z a b .ellipsis := m5.extBut _ _ D.bz.symm (m4.extBut _ _ D.jz.symm (m3.extBut _ _ D.bz.symm (m2.extBut _ _ D.iz.symm z1)))
 have k5 : ∀ c o, c ≠ z → c ≠ b → c ≠ i → c ≠ j → s.heap.get? c = some o → w5.get? c = some o := fun c o c1 c2 c3 c4 e =>
  m5.extBut _ _ c2 (m4.extBut _ _ c4 (m3.extBut _ _ c2 (m2.extBut _ _ c3 (m1.extBut _ _ c1 e))))
 have i5 : w5.IsTupleIter i t1 (k1 + 1) := ((i2.extBut m3.extBut D.bi.symm).extBut m4.extBut D.ij).extBut m5.extBut D.bi.symm
 have j5 : w5.IsTupleIter j t2 (k2 + 1) := j4.extBut m5.extBut D.bj.symm
 have zlt : z < w5.objs.size := Heap.lt_size z5
 show wpAny _ _ (Builtin.SmallTypes.ownedTupleHandOut (.ref z) (.ref w5.objs.size) >>= _) _ _ _
 refine wpAny_bind ?_
 unfold Builtin.SmallTypes.ownedTupleHandOut
 have z6 : IsZip (w5.push { cls := .type "tuple", data := .seq #[x, y] }) z a b .ellipsis := Heap.get?_push_of_some _ z5
 refine wpAny_bind (wpAny_setField_rec z6 (by simp) fun w7 z7 m7 => ?_)
 replace z7 : IsZip w7 z a b (rawInt w5.objs.size) := z7
 refine wpAny_setField_rec z7 (by simp) fun w8 z8 m8 => ?_
 replace z8 : IsZip w8 z a b (rawInt w5.objs.size) := z8
 have up : ∀ c o, c ≠ z → w5.get? c = some o → w8.get? c = some o := fun c o c1 e => m8.extBut _ _ c1 (m7.extBut _ _ c1 (Heap.get?_push_of_some _ e))
 have t8 : IsPair w8 w5.objs.size x y := m8.extBut _ _ (Nat.ne_of_gt zlt) (m7.extBut _ _ (Nat.ne_of_gt zlt) (Heap.get?_push_size _ rfl))
 rw [sz] at z8 t8
 refine wpAny_pure ⟨_, rfl, ?_⟩
 show Q (.ref w5.objs.size) _
 rw [sz]
 obtain ⟨oi, ei, ri⟩ := i5
 obtain ⟨oj, ej, rj⟩ := j5
 exact fin w8 z8 (up _ _ D.bz b5) ⟨oi, up _ oi D.iz ei, ri⟩ ⟨oj, up _ oj D.jz ej, rj⟩ t8 fun c o c1 c2 c3 c4 e => up c o c1 (k5 c o c1 c2 c3 c4 e)
theorem zk4 {z a b i j t1 t2 : Addr} {k1 k2 : Nat} {xs ys : Array Value} {p q : Value} {Q : Fin → Shared → Prop} (hh : A.handled = none) (D : ZA z a b i j) (n1 : t1 ≠ z ∧ t1 ≠ b ∧ t1 ≠ i ∧ t1 ≠ j) (n2 : t2 ≠ z ∧ t2 ≠ b ∧ t2 ≠ i ∧ t2 ≠ j)
 (hz : IsZip s.heap z a b .none) (ha : IsPair s.heap a (.ref i) (.ref j)) (hb : IsPair s.heap b p q) (h1 : s.heap.IsTupleIter i t1 k1) (h2 : s.heap.IsTupleIter j t2 k2) (g1 : s.heap.IsTuple t1 xs) (g2 : s.heap.IsTuple t2 ys) (hend : xs[k1]? = none ∨ ys[k2]? = none)
 (fin : ∀ g e, (∀ c o, c ≠ z → c ≠ b → c ≠ i → c ≠ j → s.heap.get? c = some o → g.get? c = some o) → (∃ o, g.get? e = some o ∧ o.cls = .type "StopIteration") → E (.ref e) { s with heap := g }) :
 wpAny (model prog w) A (Builtin.«zip.__next__» ⟨[.ref z], []⟩) Q E s := by
 show wpAny _ _ (field (.ref z) 2 >>= _) _ _ _
 refine wpAny_bind (wpAny_field hz rfl (x := .bool false) rfl ?_)
 show wpAny _ _ (field (.ref z) 3 >>= _) _ _ _
 refine wpAny_bind (wpAny_field hz rfl (x := .ref a) rfl ?_)
 refine wpAny_bind (wpAny_seqItems ha rfl ?_)
 show wpAny _ _ (Builtin.SmallTypes.ownedTupleIsFree (.ref z) >>= _) _ _ _
 refine wpAny_bind ?_
 unfold Builtin.SmallTypes.ownedTupleIsFree
 refine wpAny_bind (wpAny_field hz rfl (x := .none) rfl (wpAny_pure ?_))
 simp only [if_true]
 refine wpAny_bind (wpAny_rule ?_)
 refine wpAny_bind (wpAny_field hz rfl (x := .ref b) rfl ?_)
 refine wpAny_bind (wpAny_setField_rec hz (by simp) fun w1 z1 m1 => ?_)
 replace z1 : IsZip w1 z a b .ellipsis := z1
 refine wpAny_bind ?_
 simp only [List.zipIdx_cons, List.zipIdx_nil, List.forIn_cons, List.forIn_nil]
 refine wpAny_bind (wpAny_bind (wpAny_onRaise ?_))
 show wpAny _ _ (Builtin.SmallTypes.nextOf (.ref i) >>= _) _ _ _
 cases hx : xs[k1]? with
 | none =>
  refine wpAny_bind (zkb hh (h1.extBut m1.extBut D.iz) (zb6 g1 m1 n1.1) hx fun w2 e m2 he => ?_)
  obtain ⟨oe, e1, e2⟩ := he
  have z2 : IsZip w2 z a b .ellipsis := m2 _ _ D.iz.symm z1
  have ez : e ≠ z := fun u => by subst u; rw [z2] at e1; cases e1; simp at e2
  exact wpAny_setField_rec z2 (by simp) fun w3 _ m3 => fin w3 e (fun c o c1 _ c3 _ u => m3.extBut _ _ c1 (m2 _ _ c3 (m1.extBut _ _ c1 u))) ⟨oe, m3.extBut _ _ ez e1, e2⟩
 | some x =>
  have hy : ys[k2]? = none := by
   rcases hend with u | u
   · rw [hx] at u; cases u
   · exact u
  refine wpAny_bind (zgG (h1.extBut m1.extBut D.iz) (zb6 g1 m1 n1.1) hx fun w2 i2 m2 => wpAny_pure ?_)
  have b2 : IsPair w2 b p q := m2.extBut _ _ D.bi (m1.extBut _ _ D.bz hb)
  refine wpAny_bind (wpAny_seqItems b2 rfl ?_)
  refine wpAny_bind (wpAny_updateSeq_pair b2 fun w3 b3 m3 => ?_)
  refine wpAny_bind (wpAny_letGo (wpAny_pure ?_))
  refine wpAny_bind (wpAny_bind (wpAny_onRaise ?_))
  show wpAny _ _ (Builtin.SmallTypes.nextOf (.ref j) >>= _) _ _ _
  refine wpAny_bind (zkb hh (((h2.extBut m1.extBut D.jz).extBut m2.extBut D.ij.symm).extBut m3.extBut D.bj.symm) (zb6 (zb6 (zb6 g2 m1 n2.1) m2 n2.2.2.1) m3 n2.2.1) hy fun w4 e m4 he => ?_)
  obtain ⟨oe, e1, e2⟩ := he
  have z4 : IsZip w4 z a b .ellipsis := m4 _ _ D.jz.symm (m3.extBut _ _ D.bz.symm (m2.extBut _ _ D.iz.symm z1))
  have ez : e ≠ z := fun u => by subst u; rw [z4] at e1; cases e1; simp at e2
  exact wpAny_setField_rec z4 (by simp) fun w5 _ m5 => fin w5 e (fun c o c1 c2 c3 c4 u => m5.extBut _ _ c1 (m4 _ _ c4 (m3.extBut _ _ c2 (m2.extBut _ _ c3 (m1.extBut _ _ c1 u))))) ⟨oe, m5.extBut _ _ ez e1, e2⟩
end
section
variable {X : Cx} {pins : List (Addr × Obj)} {σ : St} {H : Hp} {s : Shared} {h' : Heap}
theorem Inv.newTup {T : Addr} {x y : V} {t' : Nat} (I : Inv X pins σ H s) (ch : List Addr) (hch : ∀ c ∈ ch, FpOk X pins H c) (keep : ∀ c o, c ∉ ch → s.heap.get? c = some o → h'.get? c = some o) (hT : s.heap.objs.size ≤ T)
 (tup : ∃ its : List Value, Vals [x, y] its ∧ IsTupP h' T its.toArray) : Inv X pins σ (upd H T (.tup [x, y])) { s with heap := h', toks := t' } := by
 have hn : H T = none := I.hok.fresh hT
 have neT : ∀ c o, s.heap.get? c = some o → c ≠ T := fun c o e => Nat.ne_of_lt (Nat.lt_of_lt_of_le (Heap.lt_size e) hT)
 have off : ∀ c u, H c = some u → c ∉ ch := fun c u e z => by rw [(hch c z).1] at e; cases e
 refine I.step (g' := s.gens) (d' := s.drawn) (ch := ch) (fun c hc => ⟨(hch c hc).2.2.2.1, (hch c hc).2.1, (hch c hc).2.2.2.2.1, (hch c hc).2.2.2.2.2⟩) (fun c o _ _ hc e _ => keep c o hc e) (fun c o _ _ hc e _ => ⟨o.slots, keep c o hc e⟩)
  (fun c o _ e n => by rw [zak (neT c o e)]; exact n) (fun c o hc e => ⟨o, keep c o hc e⟩) (fun c xs e => by rw [zak (zar e hn)]; exact e) (fun c o u e => by rw [zak (zar e hn)]; exact e)
  (fun c ps e => ⟨#[], by rw [zak (zar e hn), e]; simp⟩) (fun m hm => ?_) (fun c u e => ?_) I.bare
 · obtain ⟨o, es, ep, ho, r⟩ := hm
   exact ⟨o, es, ep, keep _ o (fun z => (hch _ z).2.1 rfl) ho, r⟩
 · by_cases hc : c = T
   · subst hc
     rw [zab] at e
     cases e
     obtain ⟨its, r, p⟩ := tup
     exact ⟨by show 2 ≤ sizeLine; decide, its, r, p⟩
   · rw [zak hc] at e
     refine (I.hok c u e).stay (fun d v hd q => keep d v ?_ q) (fun d q => by rw [zak (zar q hn)]; exact q) fun d xs q => by rw [zak (zar q hn)]; exact q
     rcases hd with z | z
     · rw [z]; exact off c u e
     · exact off d _ z
theorem Inv.turnedN {t' : Nat} (I : Inv X pins σ H s) (ch : List Addr) (hch : ∀ c ∈ ch, FpOk X pins H c) (keep : ∀ c o, c ∉ ch → s.heap.get? c = some o → h'.get? c = some o) : Inv X pins σ H { s with heap := h', toks := t' } := by
 have off : ∀ c u, H c = some u → c ∉ ch := fun c u e z => by rw [(hch c z).1] at e; cases e
 refine I.step (g' := s.gens) (d' := s.drawn) (ch := ch) (fun c hc => ⟨(hch c hc).2.2.2.1, (hch c hc).2.1, (hch c hc).2.2.2.2.1, (hch c hc).2.2.2.2.2⟩) (fun c o _ _ hc e _ => keep c o hc e) (fun c o _ _ hc e _ => ⟨o.slots, keep c o hc e⟩)
  (fun c o _ e n => n) (fun c o hc e => ⟨o, keep c o hc e⟩) (fun c xs e => e) (fun c o u e => e) (fun c ps e => ⟨#[], by rw [e]; simp⟩) (fun m hm => ?_) (fun c u e => ?_) I.bare
 · obtain ⟨o, es, ep, ho, r⟩ := hm
   exact ⟨o, es, ep, keep _ o (fun z => (hch _ z).2.1 rfl) ho, r⟩
 · refine (I.hok c u e).stay (fun d v hd q => keep d v ?_ q) (fun _ q => q) fun _ _ q => q
   rcases hd with z | z
   · rw [z]; exact off c u e
   · exact off d _ z
theorem zbw {t c : Addr} {xs : List V} (I : Inv X pins σ H s) (h : SqT X.K H t xs) (f : FpOk X pins H c) : t ≠ c := by
 intro e
 subst e
 rcases h with (h | ⟨o, h⟩) | ⟨o, its, n, hk, _⟩
 · rw [f.1] at h; cases h
 · rw [f.1] at h; cases h
 · have eb := I.ok.mod.kin t o hk
   rcases f.2.2.2.1 with z | z
   · exact I.ok.noex t o eb z
   · exact absurd (Nat.lt_of_lt_of_le (Heap.lt_size eb) (Nat.le_trans I.ok.bsz z)) (Nat.lt_irrefl _)
end
def Itz (K : PySem.W.Frag) (t1 t2 : Addr) : It :=
 ⟨fun k H => ∃ (xs ys : List V) (x y : V), SqT K H t1 xs ∧ SqT K H t2 ys ∧ xs[k]? = some x ∧ ys[k]? = some y,
  fun k H v H' => ∃ p, v = .ref p ∧ H p = none ∧ ∀ (xs ys : List V) (x y : V), SqT K H t1 xs → SqT K H t2 ys → xs[k]? = some x → ys[k]? = some y → H' = upd H p (.tup [x, y]),
  fun k H => ∃ (xs ys : List V), SqT K H t1 xs ∧ SqT K H t2 ys ∧ (xs.length ≤ k ∨ ys.length ≤ k)⟩
theorem zjp {P : Program} {w : World} {K : PySem.W.Frag} {es : List Expr} {kk : Nat} {pos : Pos} (t1 t2 z a b i j : Addr) (D : ZA z a b i j) :
 Turn P w K (.Tuple es kk pos) (Itz K t1 t2) [z, a, b, i, j] z (fun k h => IsZip h z a b .none ∧ IsPair h a (.ref i) (.ref j) ∧ (∃ p q, IsPair h b p q) ∧ h.IsTupleIter i t1 k ∧ h.IsTupleIter j t2 k) where
 mem := by simp
 obj := fun k h st c hc => by
  obtain ⟨hz, ha, ⟨p, q, hb⟩, ⟨oi, ei, _, di⟩, ⟨oj, ej, _, dj⟩⟩ := st
  simp only [List.mem_cons, List.not_mem_nil, or_false] at hc
  rcases hc with rfl | rfl | rfl | rfl | rfl
  · exact ⟨_, hz, fun v e => by cases e⟩
  · exact ⟨_, ha, fun v e => by cases e⟩
  · exact ⟨_, hb, fun v e => by cases e⟩
  · exact ⟨oi, ei, fun v e => by rw [di] at e; cases e⟩
  · exact ⟨oj, ej, fun v e => by rw [dj] at e; cases e⟩
 keep := fun k h h' st kp => by
  obtain ⟨hz, ha, ⟨p, q, hb⟩, ⟨oi, ei, ri⟩, ⟨oj, ej, rj⟩⟩ := st
  exact ⟨kp z (by simp) _ hz, kp a (by simp) _ ha, ⟨p, q, kp b (by simp) _ hb⟩, ⟨oi, kp i (by simp) _ ei, ri⟩, ⟨oj, kp j (by simp) _ ej, rj⟩⟩
 item := by
  intro X hP hw hK hc k pins s σ H E I hf st hg
  subst hP hw hK
  obtain ⟨xs, ys, x, y, q1, q2, hx, hy⟩ := hg
  obtain ⟨hz, ha, ⟨p, q, hb⟩, h1, h2⟩ := st
  obtain ⟨its1, r1, g1, _⟩ := I.tuple q1
  obtain ⟨its2, r2, g2, _⟩ := I.tuple q2
  obtain ⟨u1, hu1, v1⟩ := r1.get hx
  obtain ⟨u2, hu2, v2⟩ := r2.get hy
  have fz := hf z (by simp)
  have fb := hf b (by simp)
  have fi := hf i (by simp)
  have fj := hf j (by simp)
  have hT : s.TypeIs (.ref z) "zip" := ⟨_, hz, rfl⟩
  unfold pyNext
  refine wpAny_bind (wpAny_attempt (wpAny_callSpecial?_slot (name := Str.ofString "__next__") hT PySem.F.slot_zip_next (wpAny_call_entry PySem.F.slot_zip_next hT PySem.F.entry_zip_next
   (zkl D ⟨zbw I q1 fz, zbw I q1 fb, zbw I q1 fi, zbw I q1 fj⟩ ⟨zbw I q2 fz, zbw I q2 fb, zbw I q2 fi, zbw I q2 fj⟩ hz ha hb h1 h2 g1 g2 (by simpa using hu1) (by simpa using hu2) fun g a1 a2 a3 a4 a5 a6 => wpAny_pure ?_) (PySem.F.args_zip_next_1 _))))
  refine ⟨_, rfl, wpAny_letOwnedTupleGo_zip a1 fun g' z' m' => ?_⟩
  have zT : z ≠ s.heap.objs.size := Nat.ne_of_lt (Heap.lt_size hz)
  have up : ∀ c o, c ≠ z → g.get? c = some o → g'.get? c = some o := fun c o hc e => m'.extBut c o hc e
  have fr : H s.heap.objs.size = none := I.hok.fresh (Nat.le_refl _)
  have I1 : Inv X pins σ (upd H s.heap.objs.size (.tup [x, y])) { s with heap := g' } := by
   refine I.newTup (t' := s.toks) [z, b, i, j] (fun c hc => ?_) (fun c o hc e => ?_) (Nat.le_refl _) ⟨[u1, u2], .cons v1 (.cons v2 .nil), _, up _ _ zT.symm a5, rfl, rfl, _, rfl⟩
   · simp only [List.mem_cons, List.not_mem_nil, or_false] at hc
     rcases hc with rfl | rfl | rfl | rfl
     · exact fz
     · exact fb
     · exact fi
     · exact fj
   · simp only [List.mem_cons, List.not_mem_nil, or_false, not_or] at hc
     exact up c o hc.1 (a6 c o hc.1 hc.2.1 hc.2.2.1 hc.2.2.2 e)
  obtain ⟨oi, ei, ri⟩ := a3
  obtain ⟨oj, ej, rj⟩ := a4
  refine ⟨.ref s.heap.objs.size, _, I1, rfl, ⟨_, rfl, fr, fun xs' ys' x' y' s1 s2 e1 e2 => ?_⟩, ⟨z', up _ _ D.az (a6 a _ D.az D.ab D.ai D.aj ha), ⟨_, _, up _ _ D.bz a2⟩, ⟨oi, up _ _ D.iz ei, ri⟩, ⟨oj, up _ _ D.jz ej, rj⟩⟩, fun c hc => ?_⟩
  · rw [I.tuple_inj s1 q1, hx] at e1
    rw [I.tuple_inj s2 q2, hy] at e2
    cases e1
    cases e2
    rfl
  · have fc := hf c hc
    have : c ≠ s.heap.objs.size := by
     simp only [List.mem_cons, List.not_mem_nil, or_false] at hc
     obtain ⟨oi', ei', _⟩ := h1
     obtain ⟨oj', ej', _⟩ := h2
     rcases hc with rfl | rfl | rfl | rfl | rfl
     · exact zT
     · exact Nat.ne_of_lt (Heap.lt_size ha)
     · exact Nat.ne_of_lt (Heap.lt_size hb)
     · exact Nat.ne_of_lt (Heap.lt_size ei')
     · exact Nat.ne_of_lt (Heap.lt_size ej')
    rw [zak this]
    exact fc.1
 done := by
  intro X hP hw hK hc k pins s σ H E I hf st hg
  subst hP hw hK
  obtain ⟨xs, ys, q1, q2, hend⟩ := hg
  obtain ⟨hz, ha, ⟨p, q, hb⟩, h1, h2⟩ := st
  obtain ⟨its1, r1, g1, _⟩ := I.tuple q1
  obtain ⟨its2, r2, g2, _⟩ := I.tuple q2
  have l1 := r1.length
  have l2 := r2.length
  have fz := hf z (by simp)
  have fb := hf b (by simp)
  have fi := hf i (by simp)
  have fj := hf j (by simp)
  have hT : s.TypeIs (.ref z) "zip" := ⟨_, hz, rfl⟩
  unfold pyNext
  refine wpAny_bind (wpAny_attempt (wpAny_callSpecial?_slot (name := Str.ofString "__next__") hT PySem.F.slot_zip_next (wpAny_call_entry PySem.F.slot_zip_next hT PySem.F.entry_zip_next
   (zk4 (I.ok.hd hc) D ⟨zbw I q1 fz, zbw I q1 fb, zbw I q1 fi, zbw I q1 fj⟩ ⟨zbw I q2 fz, zbw I q2 fb, zbw I q2 fi, zbw I q2 fj⟩ hz ha hb h1 h2 g1 g2 ?_ fun g e kp he => ?_) (PySem.F.args_zip_next_1 _))))
  · rcases hend with u | u
    · exact .inl (by simp; omega)
    · exact .inr (by simp; omega)
  · obtain ⟨o, ho, hcl⟩ := he
    refine wpAny_bind (wpAny_isInstance (T := "StopIteration") (b := true) ⟨o, ho, hcl⟩ isSubtype_stop ?_)
    refine wpAny_pure ⟨rfl, I.turnedN (t' := s.toks) [z, b, i, j] (fun c hc => ?_) (fun c o hc e => ?_)⟩
    · simp only [List.mem_cons, List.not_mem_nil, or_false] at hc
      rcases hc with rfl | rfl | rfl | rfl
      · exact fz
      · exact fb
      · exact fi
      · exact fj
    · simp only [List.mem_cons, List.not_mem_nil, or_false, not_or] at hc
      exact kp c o hc.1 hc.2.1 hc.2.2.1 hc.2.2.2 e
 self := fun _ _ _ _ _ st h => wpAny_pyIter_zip st.1 h
abbrev zw1 (h : Heap) (t : Addr) : Heap := h.push { cls := .type "tuple_iterator", data := .fields #[.ref t, .int 0 0] }
abbrev zw2 (h : Heap) (t u : Addr) : Heap := (zw1 h t).push { cls := .type "tuple_iterator", data := .fields #[.ref u, .int 0 0] }
abbrev zw3 (h : Heap) (t u : Addr) : Heap := (zw2 h t u).push { cls := .type "tuple", data := .seq #[.ref h.objs.size, .ref (zw1 h t).objs.size] }
abbrev zw4 (h : Heap) (t u : Addr) : Heap := (zw3 h t u).push { cls := .type "tuple", data := .seq #[.none, .none] }
abbrev zw5 (h : Heap) (t u : Addr) : Heap := (zw4 h t u).push { cls := .type "zip", data := .fields #[.none, .bool false, .bool false, .ref (zw2 h t u).objs.size, .ref (zw3 h t u).objs.size] }
theorem zk3 (t u : Addr) (xs ys : Array Value) : Meets (Builtin.«zip.__new__» ⟨[.type "zip", .ref t, .ref u], []⟩) (fun _ R s => s.heap.IsTuple t xs ∧ s.heap.IsTuple u ys ∧
 R (.ok (.ret (.ref (zw4 s.heap t u).objs.size))) { s with heap := zw5 s.heap t u }) :=
 .of_wp fun prog w A R s h => by
  obtain ⟨hp, g, d, tk, os⟩ := s; obtain ⟨g1, g2, h⟩ := h
  have f0 := sub_zip
  have f1 : Heap.IsTuple (Shared.heap ⟨hp, g, d, tk, os⟩) t xs := g1
  have f2 : Heap.IsTuple (Shared.heap ⟨hp.push { cls := .type "tuple_iterator", data := .fields #[.ref t, .int 0 0] }, g, d, tk, os⟩) u ys := Heap.IsTuple.push g2 _
  wp_walk using wpAny_pyIter_tuple f1, wpAny_pyIter_tuple f2
  exact ⟨_, rfl, h⟩
theorem zlX : bootBuiltins "zip" = some (.type "zip") := by decide +kernel
section
variable {X : Cx}
def iZip (K : PySem.W.Frag) (ta : TA) : TI := fun σ H R => ta σ H fun vs H1 => ∃ t u, vs = [.ref t, .ref u] ∧ (∃ xs, SqT K H1 t xs) ∧ (∃ ys, SqT K H1 u ys) ∧ R (Itz K t u) H1
theorem zlq {es : List Expr} {kk : Nat} {tpos : Pos} {a b : Expr} {ta : TA} {p pos : Pos} (hg : Gl X "zip") (hm : X.mg "zip" = none) (ha : PA X [a, b] ta)
 (he : starEach [a, b] X.env = (false, eval a X.env) :: starEach [b] X.env := by rfl) (hpl : (backTo pos (starEach [b] X.env)).any (·.1) = false := by rfl) :
 PI X (.Tuple es kk tpos) (.Call (.Name "zip" p) [a, b] [] pos) (iZip X.K ta) := by
 intro pins s σ H R I h
 refine wpAny_Call_Name_kw (zcY I hg hm zlX ?_ (by decide) (by decide))
 refine PyProof.Rows.callWith_type1 (thn (ha pos pins s σ H _ I h) fun us s1 ⟨vs, H1, I1, r1, t, u, e, ⟨xs, q1⟩, ⟨ys, q2⟩, q⟩ => ?_) he hpl
 subst e
 obtain ⟨u1, u2, rfl, v1, v2⟩ := zhu r1
 cases v1
 cases v2
 obtain ⟨its1, rv1, g1, _⟩ := I1.tuple q1
 obtain ⟨its2, rv2, g2, _⟩ := I1.tuple q2
 refine callType_new PySem.F.called_zip (by decide) (PySem.F.typeCall_zip_2 _ _) (PySem.F.newCall_zip_2 _ _) (fun obj => PySem.F.args_object_init_3 obj _ _) PySem.F.entry_zip_new (zk3 t u its1.toArray its2.toArray) ⟨g1, g2, ?_⟩
 have y1 : (zw1 s1.heap t).objs.size = s1.heap.objs.size + 1 := Heap.size_push ..
 have y2 : (zw2 s1.heap t u).objs.size = s1.heap.objs.size + 2 := by rw [Heap.size_push, y1]
 have y3 : (zw3 s1.heap t u).objs.size = s1.heap.objs.size + 3 := by rw [Heap.size_push, y2]
 have y4 : (zw4 s1.heap t u).objs.size = s1.heap.objs.size + 4 := by rw [Heap.size_push, y3]
 have k5 : ∀ c o, s1.heap.get? c = some o → (zw5 s1.heap t u).get? c = some o := fun c o e => Heap.get?_push_of_some _ (Heap.get?_push_of_some _ (Heap.get?_push_of_some _ (Heap.get?_push_of_some _ (Heap.get?_push_of_some _ e))))
 have e5 : (zw5 s1.heap t u).get? (zw4 s1.heap t u).objs.size = some _ := Heap.get?_push_size _ rfl
 have e4 : (zw5 s1.heap t u).get? (zw3 s1.heap t u).objs.size = some _ := Heap.get?_push_of_some _ (Heap.get?_push_size _ rfl)
 have e3 : (zw5 s1.heap t u).get? (zw2 s1.heap t u).objs.size = some _ := Heap.get?_push_of_some _ (Heap.get?_push_of_some _ (Heap.get?_push_size _ rfl))
 have e2 : (zw5 s1.heap t u).get? (zw1 s1.heap t).objs.size = some _ := Heap.get?_push_of_some _ (Heap.get?_push_of_some _ (Heap.get?_push_of_some _ (Heap.get?_push_size _ rfl)))
 have e1 : (zw5 s1.heap t u).get? s1.heap.objs.size = some _ := Heap.get?_push_of_some _ (Heap.get?_push_of_some _ (Heap.get?_push_of_some _ (Heap.get?_push_of_some _ (Heap.get?_push_size _ rfl))))
 have I2 : Inv X pins σ H1 { s1 with heap := zw5 s1.heap t u } := I1.kept (t' := s1.toks) k5
 have fp : ∀ c, s1.heap.objs.size ≤ c → FpOk X pins H1 c := fun c hc => I1.fpOk hc (I1.hok.fresh hc)
 have D : ZA (zw4 s1.heap t u).objs.size (zw2 s1.heap t u).objs.size (zw3 s1.heap t u).objs.size s1.heap.objs.size (zw1 s1.heap t).objs.size := by
  have n4 : (zw3 s1.heap t u).objs.size < (zw4 s1.heap t u).objs.size := by rw [y3, y4]; exact Nat.lt_succ_self _
  have n3 : (zw2 s1.heap t u).objs.size < (zw3 s1.heap t u).objs.size := by rw [y2, y3]; exact Nat.lt_succ_self _
  have n2 : (zw1 s1.heap t).objs.size < (zw2 s1.heap t u).objs.size := by rw [y1, y2]; exact Nat.lt_succ_self _
  have n1 : s1.heap.objs.size < (zw1 s1.heap t).objs.size := by rw [y1]; exact Nat.lt_succ_self _
  exact ⟨Nat.ne_of_lt (Nat.lt_trans n3 n4), Nat.ne_of_lt n4, Nat.ne_of_lt (Nat.lt_trans n1 (Nat.lt_trans n2 (Nat.lt_trans n3 n4))), Nat.ne_of_lt (Nat.lt_trans n2 (Nat.lt_trans n3 n4)), Nat.ne_of_lt n3, Nat.ne_of_gt (Nat.lt_trans n1 n2), Nat.ne_of_gt n2,
   Nat.ne_of_gt (Nat.lt_trans n1 (Nat.lt_trans n2 n3)), Nat.ne_of_gt (Nat.lt_trans n2 n3), Nat.ne_of_lt n1⟩
 refine ⟨⟨_, e5, rfl⟩, wpAny_pyIter_zip e5 ?_⟩
 refine ⟨_, _, _, _, H1, rfl, I2, zjp t u _ _ _ _ _ D, ⟨e5, e3, ⟨_, _, e4⟩, ⟨_, e1, rfl, rfl⟩, ⟨_, e2, rfl, rfl⟩⟩, fun c hc => fp c ?_, q⟩
 simp only [List.mem_cons, List.not_mem_nil, or_false] at hc
 rcases hc with rfl | rfl | rfl | rfl | rfl
 · rw [y4]; exact Nat.le_add_right _ _
 · rw [y2]; exact Nat.le_add_right _ _
 · rw [y3]; exact Nat.le_add_right _ _
 · exact Nat.le_refl _
 · rw [y1]; exact Nat.le_add_right _ _
end
section
variable {X : Cx} {tg iter kx vx : Expr} {ifs : List Expr} {wi : TI} {js : Cap} {g : TG} {tc : TT} {tk tv : TE} {N' : List Str} {scope : Scope} {pos : Pos}
end
section
variable {prog : Program} {w : World} {A : Around} {E : Value → Shared → Prop} {s : Shared}
theorem zjc {t sl : Addr} {items : Array Value} {vl vu : Value} {lo hi : Option Int} {Q : Value → Shared → Prop} (ht : IsTup s.heap t items) (hs : s.heap.IsSliceOf sl vl vu .none) (pl : IsPart vl lo) (pu : IsPart vu hi)
 (h0 : HT.sIx items.size 0 lo = 0) (h1 : HT.sIx items.size items.size hi = items.size) (h : Q (.ref t) s) : wpAny (model prog w) A (getItem (.ref t) (.ref sl)) Q E s := by
 obtain ⟨os, hos, hcs, hds⟩ := id hs
 have hTs : s.TypeIs (.ref sl) "slice" := ⟨os, hos, hcs⟩
 unfold getItem
 try with_reducible refine wpAny_holding ?_
 first | refine wpAny_bind (wpAny_pure ?_) | skip
 refine wpAny_bind (wpAny_sequenceKey ht.typeIs (by decide) ?_)
 refine wpAny_bind (wpAny_callSpecial?_slot (name := Str.ofString "__getitem__") ht.typeIs PyProof.Rows.slot_tuple_getitem
  (wpAny_call_entry PyProof.Rows.slot_tuple_getitem ht.typeIs PySem.F.entry_tuple_getitem ?_ (PySem.F.args_tuple_getitem_2 _ _)))
 show wpAny _ _ (Builtin.Tuple.tupleItemsOf (.ref t) >>= _) _ _ s
 refine wpAny_bind (tupleItemsOf_ ht ?_)
 refine wpAny_bind (wpAny_typeOf hTs ?_)
 rw [if_pos (by decide)]
 refine wpAny_bind (HT.sliceApplied_gen hs pl pu ?_)
 have yes : ((((HT.sIx items.size 0 lo : Nat) : Int) == 0 && (1 : Int) == 1 && (HT.sIx items.size items.size hi - HT.sIx items.size 0 lo) == items.size) = true) := by
  rw [h0, h1]
  simp
 show wpAny _ _ (if (((HT.sIx items.size 0 lo : Nat) : Int) == 0 && (1 : Int) == 1 && (HT.sIx items.size items.size hi - HT.sIx items.size 0 lo) == items.size) = true then _ else _) _ _ s
 rw [if_pos yes]
 unfold Builtin.Tuple.tupleIsExact
 refine wpAny_bind (wpAny_bind (wpAny_typeOf ht.typeIs (wpAny_pure ?_)))
 rw [if_pos (by decide)]
 exact wpAny_bind (wpAny_rule (wpAny_pure ⟨_, rfl, wpAny_pure h⟩))
end
section
variable {X : Cx}
def rSlW (K : PySem.W.Frag) : V → Option Int → Option Int → Hp → VK → Prop := fun x lo hi H Q => ∃ a xs, x = .ref a ∧ SqT K H a xs ∧
 (HT.sIx xs.length 0 lo = 0 ∧ HT.sIx xs.length xs.length hi = xs.length → Q (.ref a) H) ∧
 (¬ (HT.sIx xs.length 0 lo = 0 ∧ HT.sIx xs.length xs.length hi = xs.length) → ∀ p, H p = none → Q (.ref p) (upd H p (.tup (cutV xs lo hi))))
theorem zid : SlR X (rSlW X.K) := by
 intro pins s σ H x v vl vu lo hi sl Q I rx hs pl pu h
 obtain ⟨a, xs, rfl, hx, q1, q2⟩ := h
 by_cases hw : HT.sIx xs.length 0 lo = 0 ∧ HT.sIx xs.length xs.length hi = xs.length
 · cases rx
   obtain ⟨its, r, ht, hz⟩ := I.tuple hx
   have hlen : its.toArray.size = xs.length := by rw [List.size_toArray]; exact r.length.symm
   refine ⟨"tuple", _, PyProof.Rows.slot_tuple_getitem.lookup, ht.typeIs, ?_⟩
   exact zjc ht hs pl pu (by rw [hlen]; exact hw.1) (by rw [hlen]; exact hw.2) ⟨.ref a, H, I, rfl, q1 hw⟩
 · exact zlj pins s σ H (.ref a) v vl vu lo hi sl Q I rx hs pl pu ⟨a, xs, rfl, hx, hw, q2 hw⟩
theorem zky {K : PySem.W.Frag} {H : Hp} {a : Addr} {xs : List V} {Q : VK} (h : SqT K H a xs) (q : ∀ p H', Same H H' → SqT K H' p (xs.drop 1) → Q (.ref p) H') : rSlW K (.ref a) (some 1) none H Q := by
 have e0 : HT.sIx xs.length 0 (some 1) = min 1 xs.length := HT.sIx_nat _ _ 1
 refine ⟨a, xs, rfl, h, fun hw => ?_, fun hw p hp => ?_⟩
 · rw [e0] at hw
   have hl : xs.length = 0 := by omega
   have hx : xs = [] := List.length_eq_zero_iff.mp hl
   subst hx
   exact q a H (Same.refl _) h
 · refine q p _ (zae hp _) (SqT.of ?_)
   rw [zab]
   unfold cutV
   rw [e0, show HT.sIx xs.length xs.length none = xs.length from rfl]
   cases xs with
   | nil => rfl
   | cons x r =>
    have e1 : min 1 (x :: r).length = 1 := by rw [List.length_cons]; omega
    rw [e1]
    congr 2
    rw [List.length_cons, Nat.add_sub_cancel]
    exact List.take_of_length_le (by simp)
end
section
variable {X : Cx} {K : PySem.W.Frag}
theorem zgP (K : PySem.W.Frag) (h : X.K = K) : IxR X (rIxT K) := by subst h; exact zaW
theorem zeV (K : PySem.W.Frag) (h : X.K = K) {es : List Expr} {k : Nat} {t : TGs} {n : Nat} {pos : Pos} (hc : X.calm = true) (hg : PGs X es t)
 (hn : (assignEach es X.env).length = n := by rfl) (hst : (assignEach es X.env).findIdx? (·.1) = none := by rfl) : PG X (.Tuple es k pos) (gTup K n t) := by subst h; exact zb1 hc hg hn hst
end
theorem zlG {K : PySem.W.Frag} {t1 t2 p : Addr} {xs ys : List V} {g : TG} {tc : TT} {te : TE} {σ : St} {H : Hp} {Q : VK} {js : Cap} {n : Nat} (h1 : n ≤ xs.length) (h2 : n ≤ ys.length) (h3 : xs.length ≤ n ∨ ys.length ≤ n) (Pv : Nat → St → List V → Hp → Prop) (h0 : Pv 0 (inn js σ) [] (upd H p (.lst [])))
 (hl : ∀ i σ zs H, i ≤ n → Pv i σ zs H → SqT K H t1 xs ∧ SqT K H t2 ys ∧ H p = some (.lst zs) ∧ zs.length < sizeLine)
 (hs : ∀ (i : Nat) x y σ zs H q (N : St → List V → Hp → Prop), xs[i]? = some x → ys[i]? = some y → H q = none → Pv i σ zs H → (∀ σ' ys' H', Pv (i + 1) σ' ys' H' → N σ' ys' H') → zey p g tc te zs (.ref q) σ (upd H q (.tup [x, y])) N)
 (hd : ∀ σ zs H, Pv n σ zs H → Q (.ref p) H) : zcn (Itz K t1 t2) p js g tc te σ H Q :=
 zfD (n := n) (J := Itz K t1 t2) (js := js) (σ := σ) (H := H) (p := p) (Q := Q) (g := g) (tc := tc) (te := te) Pv h0 (fun i σ zs H hi pv => (hl i σ zs H hi pv).2.2)
  (fun i σ zs H hi pv => ⟨xs, ys, xs[i], ys[i], (hl i σ zs H (Nat.le_of_lt hi) pv).1, (hl i σ zs H (Nat.le_of_lt hi) pv).2.1, by simp, by simp⟩)
  (fun σ zs H pv => ⟨xs, ys, (hl _ σ zs H (Nat.le_refl _) pv).1, (hl _ σ zs H (Nat.le_refl _) pv).2.1, h3⟩)
  (fun i v σ zs H H' N hi y pv hN => by
   obtain ⟨q, e, hq, y⟩ := y
   subst e
   have ex : xs[i]? = some xs[i] := by simp
   have ey : ys[i]? = some ys[i] := by simp
   have e2 := y xs ys _ _ (hl i σ zs H (Nat.le_of_lt hi) pv).1 (hl i σ zs H (Nat.le_of_lt hi) pv).2.1 ex ey
   subst e2
   exact hs i _ _ σ zs H q N ex ey hq pv hN) hd
section
variable {X : Cx} {pins : List (Addr × Obj)} {σ : St} {H : Hp} {s : Shared} {h' : Heap}
end
section
variable {X : Cx}
end
section
variable {X : Cx} {e : Expr} {te : TE} {pos p2 p3 p4 : Pos} {n : Nat}
end
def unlike (ns : List Int) : Nat := (ns.foldl step_dedup []).length
section
variable {X : Cx} {e : Expr} {te : TE} {pos p2 p3 p4 : Pos}
end
section
variable {X : Cx}
end
end L2
namespace WB
end WB
namespace L2
open PySem PySem.Spec PyProof.Rows
section
variable {X : Cx}
def zjZ (i j : Int) : Prop := i.natAbs < 2 ^ 1000 ∧ j.natAbs < 2 ^ 1000
end
section
variable {K : PySem.W.Frag} {H : Hp} {Q : VK}
end
theorem zgH {H H' : Hp} {l : Addr} (s : Same H H') (h : H' l = none) : H l = none := by
 cases hz : H l with
 | none => rfl
 | some o => rw [s _ _ hz] at h; cases h
theorem nb {i : Int} (h0 : 0 ≤ i) (h1 : i < 2 ^ 400) : i.natAbs < 2 ^ 1000 := by
 have : i.natAbs < 2 ^ 400 := by omega
 exact Nat.lt_of_lt_of_le this (by decide)
theorem stir {y z : Int} (y0 : 0 ≤ y) (y1 : y < 10 ^ 41) (z0 : 0 ≤ z) (z1 : z ≤ 2 ^ 31) :
 zjZ 30011 z ∧ zjZ (y + 1) (30011 * z + 7) ∧ zjZ 104729 z ∧ zjZ (104729 * z) z ∧ 0 ≤ (y + 1) * (30011 * z + 7) + 104729 * z * z ∧ (y + 1) * (30011 * z + 7) + 104729 * z * z < 2 ^ 400 := by
 have a0 : 0 ≤ 30011 * z + 7 := by omega
 have a1 : 30011 * z + 7 ≤ 2 ^ 50 := by omega
 have a2 : (y + 1) * (30011 * z + 7) ≤ (10 ^ 41) * 2 ^ 50 := Int.mul_le_mul (by omega) a1 a0 (by decide)
 have a3 : 0 ≤ (y + 1) * (30011 * z + 7) := Int.mul_nonneg (by omega) a0
 have b0 : 0 ≤ 104729 * z := by omega
 have b1 : 104729 * z ≤ 2 ^ 50 := by omega
 have b2 : 104729 * z * z ≤ 2 ^ 50 * 2 ^ 31 := Int.mul_le_mul b1 z1 z0 (by decide)
 have b3 : 0 ≤ 104729 * z * z := Int.mul_nonneg b0 z0
 refine ⟨⟨by decide, nb z0 (by omega)⟩, ⟨nb (by omega) (by omega), nb a0 (by omega)⟩, ⟨by decide, nb z0 (by omega)⟩, ⟨nb b0 (by omega), nb z0 (by omega)⟩, by omega, by omega⟩
def zju (K : PySem.W.Frag) : Sp := fun vs H Q _ => ∃ (a : Addr) (ns : List Int), vs = [.ref a] ∧ SqL K H a (ns.map V.int) ∧ ns.length ≤ 63 ∧ ∀ H', Q (.bl true) H'
def Tups (H H' : Hp) : Prop := ∀ a xs, H a = some (.tup xs) → H' a = some (.tup xs)
theorem Tups.trans {H H1 H2 : Hp} (a : Tups H H1) (b : Tups H1 H2) : Tups H H2 := fun c xs h => b c xs (a c xs h)
theorem Same.tups {H H' : Hp} (s : Same H H') : Tups H H' := fun a xs h => s _ _ h
theorem zeC {H : Hp} {p : Addr} {ys : List V} {o : HO} (h : H p = some (.lst ys)) : Tups H (upd H p o) := fun a xs e => by
 rw [zak (zhH e h (by intro z; cases z))]
 exact e
theorem zbq {H H0 : Hp} {p : Addr} {o : HO} (s : Same H0 H) (n : H0 p = none) : Same H0 (upd H p o) := fun a u e => by
 rw [zak (zar e n)]
 exact s _ _ e
section
variable {X : Cx} {pos : Pos}
end
end L2
namespace WB
end WB
namespace WB
end WB
namespace L2
open PySem PySem.Spec PyProof.Rows
section
variable {X : Cx}
variable {e : Expr} {te : TE} {pos p2 p3 p4 : Pos}
end
end L2
namespace WB
end WB
namespace L2
open PySem PySem.Spec PyProof.Rows
inductive DX where
 | non
 | bl (b : Bool)
 | int (i : Int)
 | str (x : Str)
 | lst (ds : List DX)
 | tup (ds : List DX)
 | dic
mutual
def RepX (H : Hp) : DX → V → Prop
 | .non, v => v = .non
 | .bl b, v => v = .bl b
 | .int i, v => v = .int i
 | .str x, v => v = .str x ∧ x.length ≤ 900
 | .lst ds, v => ∃ a xs, v = .ref a ∧ H a = some (.lst xs) ∧ ds.length ≤ 900 ∧ RepXs H ds xs
 | .tup ds, v => ∃ a xs, v = .ref a ∧ H a = some (.tup xs) ∧ ds.length ≤ 900 ∧ RepXs H ds xs
 | .dic, v => ∃ a, v = .ref a ∧ H a = some (.dK [])
def RepXs (H : Hp) : List DX → List V → Prop
 | [], xs => xs = []
 | d :: ds, xs => ∃ x r, xs = x :: r ∧ RepX H d x ∧ RepXs H ds r
end
mutual
theorem RepX.same {H H' : Hp} (s : Same H H') : ∀ (d : DX) {v : V}, RepX H d v → RepX H' d v
 | .non, v, h => by rw [RepX] at *; exact h
 | .bl b, v, h => by rw [RepX] at *; exact h
 | .int i, v, h => by rw [RepX] at *; exact h
 | .str x, v, h => by rw [RepX] at *; exact h
 | .lst ds, v, h => by rw [RepX] at *; obtain ⟨a, xs, e, h1, h0, h2⟩ := h; exact ⟨a, xs, e, s _ _ h1, h0, RepXs.same s ds h2⟩
 | .tup ds, v, h => by rw [RepX] at *; obtain ⟨a, xs, e, h1, h0, h2⟩ := h; exact ⟨a, xs, e, s _ _ h1, h0, RepXs.same s ds h2⟩
 | .dic, v, h => by rw [RepX] at *; obtain ⟨a, e, h1⟩ := h; exact ⟨a, e, s _ _ h1⟩
theorem RepXs.same {H H' : Hp} (s : Same H H') : ∀ (ds : List DX) {xs : List V}, RepXs H ds xs → RepXs H' ds xs
 | [], xs, h => by rw [RepXs] at *; exact h
 | d :: ds, xs, h => by rw [RepXs] at *; obtain ⟨x, r, e, h1, h2⟩ := h; exact ⟨x, r, e, RepX.same s d h1, RepXs.same s ds h2⟩
end
mutual
def pd : DX → PyData
 | .non => .none
 | .bl b => .bool b
 | .int i => .int i
 | .str x => .str x
 | .lst ds => .list (pds ds)
 | .tup ds => .tuple (pds ds)
 | .dic => .dict []
def pds : List DX → List PyData
 | [] => []
 | d :: ds => pd d :: pds ds
end
def zl3 : DX → Bool
 | .lst _ => false
 | .tup _ => false
 | _ => true
section
variable {X : Cx} {pins : List (Addr × Obj)} {σ : St} {H : Hp} {s : Shared}
mutual
theorem zbN (I : Inv X pins σ H s) : ∀ (d : DX) {v : V} {u : Value}, RepX H d v → RelV v u → ∃ as, Reads s.heap u (pd d) as ∧ (zl3 d = true → sysModules ∉ as)
 | .non, v, u, h, r => by rw [RepX] at h; subst h; cases (show u = Value.none from r); rw [pd]; exact ⟨[], .none, fun _ => by simp⟩
 | .bl b, v, u, h, r => by rw [RepX] at h; subst h; cases (show u = Value.bool b from r); rw [pd]; exact ⟨[], .bool b, fun _ => by simp⟩
 | .int i, v, u, h, r => by rw [RepX] at h; subst h; obtain ⟨t, e⟩ := (show ∃ t, u = Value.int i t from r); subst e; rw [pd]; exact ⟨[], .int i t, fun _ => by simp⟩
 | .str x, v, u, h, r => by rw [RepX] at h; obtain ⟨rfl, _⟩ := h; obtain ⟨t, e⟩ := (show ∃ t, u = Value.str x t from r); subst e; rw [pd]; exact ⟨[], .str x t, fun _ => by simp⟩
 | .lst ds, v, u, h, r => by
  rw [RepX] at h
  obtain ⟨a, xs, rfl, h1, _, h2⟩ := h
  cases (show u = Value.ref a from r)
  obtain ⟨_, its, n, rv, hg⟩ := (show ObjOk X.prog X.w H s.heap a (.lst xs) from I.hok a _ h1)
  obtain ⟨as, ra, _⟩ := zdQ I ds h2 rv
  rw [pd]
  exact ⟨a :: as, .list hg rfl rfl ra, fun z => by cases z⟩
 | .tup ds, v, u, h, r => by
  rw [RepX] at h
  obtain ⟨a, xs, rfl, h1, _, h2⟩ := h
  cases (show u = Value.ref a from r)
  obtain ⟨_, its, rv, o, hg, hc, _, n, hd⟩ := (show ObjOk X.prog X.w H s.heap a (.tup xs) from I.hok a _ h1)
  obtain ⟨as, ra, _⟩ := zdQ I ds h2 rv
  rw [pd]
  exact ⟨as, .tuple hg hc hd ra, fun z => by cases z⟩
 | .dic, v, u, h, r => by
  rw [RepX] at h
  obtain ⟨a, rfl, h1⟩ := h
  cases (show u = Value.ref a from r)
  obtain ⟨_, hS, vs, rk, o, es, ep, hg, hx, hd, hk, hp, _⟩ := zeh I.hok h1
  cases rk
  have ee : es.toList = [] := by
   cases z : es.toList with
   | nil => rfl
   | cons y ys => rw [z] at hp; cases hp
  rw [pd]
  refine ⟨a :: [] ++ [], .dict (kvs := []) hg hx.1 hd (by rw [ee]; exact .nil) (by rw [ee]; exact .nil), fun _ z => ?_⟩
  simp at z
  rw [← z] at hS
  simp at hS
theorem zdQ (I : Inv X pins σ H s) : ∀ (ds : List DX) {xs : List V} {us : List Value}, RepXs H ds xs → Vals xs us → ∃ as, ReadsAll s.heap us (pds ds) as ∧ ((∀ d ∈ ds, zl3 d = true) → sysModules ∉ as)
 | [], xs, us, h, r => by rw [RepXs] at h; subst h; cases r; rw [pds]; exact ⟨[], .nil, fun _ => by simp⟩
 | d :: ds, xs, us, h, r => by
  rw [RepXs] at h
  obtain ⟨x, ys, rfl, h1, h2⟩ := h
  cases r with
  | cons r1 r2 =>
   obtain ⟨as, ra, na⟩ := zbN I d h1 r1
   obtain ⟨bs, rb, nb⟩ := zdQ I ds h2 r2
   rw [pds]
   refine ⟨as ++ bs, .cons ra rb, fun z w => ?_⟩
   rcases List.mem_append.mp w with w | w
   · exact na (z d (List.mem_cons_self ..)) w
   · exact nb (fun e he => z e (List.mem_cons_of_mem _ he)) w
end
end
section
variable {X : Cx}
end
section
variable {X : Cx} {pins : List (Addr × Obj)} {σ : St} {H : Hp} {s : Shared}
mutual
theorem shK (I : Inv X pins σ H s) : ∀ (d : DX) {v : V} {u : Value}, RepX H d v → RelV v u → (pd d).showable = true → (pd d).shown.length ≤ sizeLine → ∃ bs, ReadAtMost s.heap (pd d).depth bs ∧ ReprK X.prog X.w bs s.heap (pd d).depth u (pd d).shown
 | .non, v, u, h, r, hs, hz => let ⟨as, ra, na⟩ := zbN I _ h r; ReprK.of_reads ra hs (fun _ => na rfl) hz
 | .bl _, v, u, h, r, hs, hz => let ⟨as, ra, na⟩ := zbN I _ h r; ReprK.of_reads ra hs (fun _ => na rfl) hz
 | .int _, v, u, h, r, hs, hz => let ⟨as, ra, na⟩ := zbN I _ h r; ReprK.of_reads ra hs (fun _ => na rfl) hz
 | .str _, v, u, h, r, hs, hz => let ⟨as, ra, na⟩ := zbN I _ h r; ReprK.of_reads ra hs (fun _ => na rfl) hz
 | .dic, v, u, h, r, hs, hz => let ⟨as, ra, na⟩ := zbN I _ h r; ReprK.of_reads ra hs (fun _ => na rfl) hz
 | .lst ds, v, u, h, r, hs, hz => by
  obtain ⟨as, ra, _⟩ := zbN I _ h r
  rw [RepX] at h
  obtain ⟨a, xs, rfl, h1, _, h2⟩ := h
  cases (show u = Value.ref a from r)
  obtain ⟨_, its, n, rv, hg⟩ := (show ObjOk X.prog X.w H s.heap a (.lst xs) from I.hok a _ h1)
  rw [pd] at ra hs hz ⊢
  have hz' : (listText (PyData.shownAll (pds ds))).length ≤ sizeLine := by simpa only [PyData.shown] using hz
  obtain ⟨bs, hb, hk⟩ := shKs I ds h2 rv (by simpa [PyData.showable] using hs) (fun t ht => Nat.le_trans (listText_mem_le ht) hz')
  have hna : a ∉ bs := not_mem_of_deeper ra (by simp only [PyData.depth]; omega) hb
  refine ⟨a :: bs, ReadAtMost.cons ra (by simp only [PyData.depth]; omega) hb, ?_⟩
  simp only [PyData.depth, PyData.shown]
  cases its with
  | nil =>
   have e := hk.length_eq
   cases z : PyData.shownAll (pds ds) with
   | nil => rw [listText_nil]; exact ReprK.listEmpty hg rfl rfl
   | cons y ys => rw [z] at e; cases e
  | cons x l => exact ReprK.list hg rfl rfl hna (by simpa using hk.length_eq) (fun i y e => hk.item i y (by simpa using e))
 | .tup ds, v, u, h, r, hs, hz => by
  obtain ⟨as, ra, _⟩ := zbN I _ h r
  rw [RepX] at h
  obtain ⟨a, xs, rfl, h1, _, h2⟩ := h
  cases (show u = Value.ref a from r)
  obtain ⟨_, its, rv, o, hg, hc, _, n, hd⟩ := (show ObjOk X.prog X.w H s.heap a (.tup xs) from I.hok a _ h1)
  rw [pd] at ra hs hz ⊢
  have hz' : (tupleText (PyData.shownAll (pds ds))).length ≤ sizeLine := by simpa only [PyData.shown] using hz
  obtain ⟨bs, hb, hk⟩ := shKs I ds h2 rv (by simpa [PyData.showable] using hs) (fun t ht => Nat.le_trans (tupleText_mem_le ht) hz')
  have hna : a ∉ bs := not_mem_of_deeper ra (by simp only [PyData.depth]; omega) hb
  refine ⟨a :: bs, ReadAtMost.cons ra (by simp only [PyData.depth]; omega) hb, ?_⟩
  simp only [PyData.depth, PyData.shown]
  exact ReprK.tuple hg hc hd hna hk
theorem shKs (I : Inv X pins σ H s) : ∀ (ds : List DX) {xs : List V} {us : List Value}, RepXs H ds xs → Vals xs us → PyData.showableAll (pds ds) = true → (∀ t ∈ PyData.shownAll (pds ds), t.length ≤ sizeLine) →
 ∃ bs, ReadAtMost s.heap (PyData.depthAll (pds ds)) bs ∧ ReprAllK X.prog X.w bs s.heap (PyData.depthAll (pds ds)) us (PyData.shownAll (pds ds))
 | [], xs, us, h, r, _, _ => by
  rw [RepXs] at h
  subst h
  cases r
  rw [pds]
  exact ⟨[], (fun _ h => nomatch h), by simp only [PyData.shownAll]; exact .nil⟩
 | d :: ds, xs, us, h, r, hs, hz => by
  rw [RepXs] at h
  obtain ⟨x, ys, rfl, h1, h2⟩ := h
  rw [pds] at hs hz ⊢
  have hs' : (pd d).showable = true ∧ PyData.showableAll (pds ds) = true := by simpa [PyData.showableAll] using hs
  cases r with
  | cons r1 r2 =>
   obtain ⟨b1, hb1, k1⟩ := shK I d h1 r1 hs'.1 (hz _ (by simp only [PyData.shownAll]; exact List.mem_cons_self ..))
   obtain ⟨b2, hb2, k2⟩ := shKs I ds h2 r2 hs'.2 (fun t ht => hz t (by simp only [PyData.shownAll]; exact List.mem_cons_of_mem _ ht))
   refine ⟨b1 ++ b2, ?_, ?_⟩
   · simp only [PyData.depthAll]
     exact (hb1.mono (Nat.le_max_left _ _)).append (hb2.mono (Nat.le_max_right _ _))
   · simp only [PyData.depthAll, PyData.shownAll]
     exact .cons ((k1.more fun b hb => List.mem_append_left _ hb).level_le (Nat.le_max_left _ _)) (k2.more_le (fun b hb => List.mem_append_right _ hb) (Nat.le_max_right _ _))
end
end
open PySem.AutoSeq1 (wpAny_loadPart')
open PySem.MeetsSeq PySem.MeetsSeq2 PySem.MeetsSeq3 PySem.SeqRoads2
def EqIn (P : Program) (w : World) (A : Around) (s : Shared) (y x : Value) : Prop := ∀ (E : Value → Shared → Prop) (Q : Bool → Shared → Prop), Q true s → wpAny (model P w) A (eqBool y x) Q E s
theorem EqIn.of {P : Program} {w : World} {A : Around} {s : Shared} {y x : Value} (h : SeqAt.EqAt A s y x true) : EqIn P w A s y x := fun E Q q => h P w E Q q
section
variable {P : Program} {w : World}
theorem zgR (l b : Addr) (items items2 : Array Value) (n n2 : Nat) (dd dd2 : Option Addr) (sl sl2 : Array (Option Value)) (hsz : items.size = items2.size) (k : Nat) :
 ∀ i : Nat, items.size - i = k → ∀ (A : Around) (R : Result → Shared → Prop) (s : Shared), s.heap.get? l = some { cls := .type "list", dict := dd, data := .seq items n, slots := sl } → s.heap.get? b = some { cls := .type "list", dict := dd2, data := .seq items2 n2, slots := sl2 } →
  (∀ j (h1 : j < items.size) (h2 : j < items2.size), EqIn P w A.in1 s items[j] items2[j]) → R (.ok (.ret (.bool true))) s →
  wpAny (model P w) A.in1 (Builtin.«list.__eq__.loop» ⟨[.ref l, .ref b, rawInt i, rawInt 2], []⟩) (fun fin s' => match fin with | .done f => R (.ok f) s' | .again c' => c'.quiet = true ∧ codeAny (model P w) A c' R s') (fun e s' => R (.error e) s') s := by
 induction k with
 | zero =>
  intro i hk A R s hl hb he h
  obtain ⟨hp, g, d, tk, os⟩ := s
  wp_walk using wpAny_loadPart' hl, wpAny_loadPart' hb
  have o1 : items[((i : Nat) : Int).toNat]? = none := by simp; omega
  have o2 : items2[((i : Nat) : Int).toNat]? = none := by simp; omega
  rw [o1, o2]
  wp_walk using wpAny_loadPart' hl, wpAny_loadPart' hb
  show R (.ok (.ret (.bool (items.size == items2.size)))) _
  rw [hsz]
  simpa using h
 | succ k ih =>
  intro i hk A R s hl hb he h
  obtain ⟨hp, g, d, tk, os⟩ := s
  wp_walk using wpAny_loadPart' hl, wpAny_loadPart' hb
  have lt1 : i < items.size := by omega
  have lt2 : i < items2.size := by omega
  have o1 : items[((i : Nat) : Int).toNat]? = some items[i] := by simp [lt1]
  have o2 : items2[((i : Nat) : Int).toNat]? = some items2[i] := by simp [lt2]
  have hc : ((i : Int) + 1) = ((i + 1 : Nat) : Int) := by push_cast; rfl
  rw [o1, o2]
  refine wpAny_bind (he i lt1 lt2 _ _ ?_)
  wp_walk
  rw [hc]
  exact ⟨plainId_quiet plain_eq_loop _, codeAny_builtin entry_eq_loop (by
   rw [Around.under_plainId plain_eq_loop _]
   exact ih (i + 1) (by omega) A R _ hl hb he h)⟩
theorem zlO (l b : Addr) (items items2 : Array Value) (n n2 : Nat) (dd dd2 : Option Addr) (sl sl2 : Array (Option Value)) (hsz : items.size = items2.size) (A : Around) (R : Result → Shared → Prop) (s : Shared)
 (hl : s.heap.get? l = some { cls := .type "list", dict := dd, data := .seq items n, slots := sl }) (hb : s.heap.get? b = some { cls := .type "list", dict := dd2, data := .seq items2 n2, slots := sl2 })
 (he : ∀ j (h1 : j < items.size) (h2 : j < items2.size), EqIn P w A.in1 s items[j] items2[j]) (h : R (.ok (.ret (.bool true))) s) :
 wpAny (model P w) A.in1 (Builtin.«list.__eq__» ⟨[.ref l, .ref b], []⟩) (fun fin s' => match fin with | .done f => R (.ok f) s' | .again c' => c'.quiet = true ∧ codeAny (model P w) A c' R s') (fun e s' => R (.error e) s') s := by
 obtain ⟨hp, g, d, tk, os⟩ := s
 have f3 := AutoSeq1.sub_list_list
 have hne : ¬ (items.size != items2.size) = true := by simp [hsz]
 wp_walk using wpAny_loadPart' hl, wpAny_loadPart' hb
 exact ⟨plainId_quiet plain_eq_loop _, codeAny_builtin entry_eq_loop (by
  rw [Around.under_plainId plain_eq_loop _]
  exact zgR l b items items2 n n2 dd dd2 sl sl2 hsz _ 0 rfl A R _ hl hb he h)⟩
theorem zik {l b : Addr} {items items2 : Array Value} {A : Around} {s : Shared} {E : Value → Shared → Prop} {Q : Value → Shared → Prop} (hl : s.heap.IsList l items) (hb : s.heap.IsList b items2) (hsz : items.size = items2.size) (hu : A.units < cLine)
 (he : ∀ j (h1 : j < items.size) (h2 : j < items2.size), EqIn P w A.in1 s items[j] items2[j]) (h : Q (.bool true) s) : wpAny (model P w) A (richCompare .Eq (.ref l) (.ref b)) Q E s := by
 obtain ⟨⟨c1, dd, data, sl⟩, ho, hc, n, hd⟩ := id hl
 obtain ⟨⟨c2, dd2, data2, sl2⟩, ho2, hc2, n2, hd2⟩ := id hb
 simp only at hc hd hc2 hd2
 subst hc hd hc2 hd2
 refine wpAny_richCompare_same_room (op := .Eq) ⟨_, ho, rfl⟩ ⟨_, ho2, rfl⟩ F.slot_list_eq ?_ hu
 refine wpAny_call (codeAny_call_builtin F.slot_list_eq.plain F.entry_list_eq (F.slot_list_eq.check _ _ _ _ _ _ _ _ ⟨_, ho, rfl⟩ (F.args_list_eq_2 _ _) ?_))
 exact zlO l b items items2 n n2 dd dd2 sl sl2 hsz A (wants (fun v s' => v ≠ .notImplemented ∧ Q v s') E) s ho ho2 he (show Value.bool true ≠ Value.notImplemented ∧ Q (.bool true) s from ⟨(fun x => nomatch x), h⟩)
theorem zha {l b : Addr} {items items2 : Array Value} {A : Around} {s : Shared} {E : Value → Shared → Prop} {Q : Value → Shared → Prop} (hl : s.heap.IsTuple l items) (hb : s.heap.IsTuple b items2) (hsz : items.size = items2.size) (hu : A.units < cLine)
 (he : ∀ j (h1 : j < items.size) (h2 : j < items2.size), EqIn P w A.in1 s items[j] items2[j]) (h : Q (.bool true) s) : wpAny (model P w) A (richCompare .Eq (.ref l) (.ref b)) Q E s := by
 obtain ⟨⟨c1, dd, data, sl⟩, ho, hc, n, hd⟩ := id hl
 obtain ⟨⟨c2, dd2, data2, sl2⟩, ho2, hc2, n2, hd2⟩ := id hb
 simp only at hc hd hc2 hd2
 subst hc hd hc2 hd2
 refine wpAny_richCompare_same_room (op := .Eq) ⟨_, ho, rfl⟩ ⟨_, ho2, rfl⟩ F.slot_tuple_eq (wpAny_call_entry F.slot_tuple_eq ⟨_, ho, rfl⟩ F.entry_tuple_eq ?_ (F.args_tuple_eq_2 _ _)) hu
 obtain ⟨hp, g, d, tk, os⟩ := s
 have f2 := AutoSeq1.sub_tuple_tuple
 have hZ : (items.toList.zip items2.toList).length = items.size := by simp [hsz]
 wp_walk using wpAny_loadPart' ho, wpAny_loadPart' ho2, wpAny_forIn_list _ (fun rest b s' => b.1 = none ∧ s' = ⟨hp, g, d, tk, os⟩ ∧ ∃ i, rest = (items.toList.zip items2.toList).drop i) _
 case turn =>
  rintro ⟨y, x⟩ rest b s' ⟨hb', rfl, i, hz⟩
  have lt0 : i < (items.toList.zip items2.toList).length := by
   rcases Nat.lt_or_ge i (items.toList.zip items2.toList).length with h' | h'
   · exact h'
   · rw [List.drop_of_length_le h'] at hz; cases hz
  have h1 : i < items.size := hZ ▸ lt0
  have h2 : i < items2.size := hsz ▸ h1
  rw [List.drop_eq_getElem_cons lt0] at hz
  injection hz with hyx hrest
  have hy : y = items[i] := by have := congrArg Prod.fst hyx; simpa using this
  have hx : x = items2[i] := by have := congrArg Prod.snd hyx; simpa using this
  subst hy hx
  refine wpAny_bind (he i h1 h2 _ _ ?_)
  wp_walk
  exact ⟨rfl, rfl, i + 1, hrest⟩
 case fin =>
  rintro ⟨b1, b2⟩ s' ⟨hb', rfl, i, hz⟩
  simp only at hb'
  subst hb'
  wp_walk
  refine ⟨_, rfl, ?_⟩
  have e : Builtin.Tuple.tupleCompareSizes .Eq items.size items2.size = Value.bool true := by simp [Builtin.Tuple.tupleCompareSizes, hsz]
  first | (rw [e]; exact ⟨(fun x => nomatch x), h⟩) | (simpa [Builtin.Tuple.tupleCompareSizes, hsz] using h)
 case h => exact ⟨rfl, rfl, 0, rfl⟩
end
end L2
namespace L2
open PySem PySem.Spec PyProof.Rows PySem.Calls
section
variable {P : Program} {w : World} {κ : Type} [DecidableEq κ] {knd : KeyKind P w κ} {A : Around} {E : Value → Shared → Prop} {s : Shared}
theorem zg1 {nm : String} {a b : Addr} {ka kb : List (κ × Value)} {Q : Bool → Shared → Prop} (ha : (a == sysModules) = false) (hb : (b == sysModules) = false)
 (da : s.heap.DictOf knd a ka) (db : s.heap.DictOf knd b kb) (hlen : ka.length = kb.length) (hits : ∀ (i : Nat) (k : κ) (v : Value), ka[i]? = some (k, v) → ∃ y, valueAt kb k = some y ∧ EqIn P w A s v y) (h : Q true s) :
 wpAny (model P w) A (Builtin.Dict.samePairs nm a b) Q E s := by
 obtain ⟨o1, m1, p1, g1, _, d1, q1, z1, _⟩ := da
 obtain ⟨o2, m2, p2, g2, _, d2, q2, z2, _⟩ := db
 have n1 : ka.length = m1.size := by rw [← z1.length]; exact Array.length_toList
 have n2 : kb.length = m2.size := by rw [← z2.length]; exact Array.length_toList
 have look : ∀ k, findBy knd.is m2 k = valueAt kb k := fun k => by
  rw [← z2.find k]
  clear n2 z2 q2 d2 g2
  obtain ⟨l⟩ := m2
  simp [findBy]
 have same : m1.size = m2.size := by omega
 unfold Builtin.Dict.samePairs Builtin.Dict.showsAll
 rw [if_neg (by rw [ha]; exact Bool.false_ne_true), if_neg (by rw [hb]; exact Bool.false_ne_true)]
 refine wpAny_bind (wpAny_pure (wpAny_bind (wpAny_pure (wpAny_bind (wpAny_dictEntries g1 d1 ?_)))))
 dsimp only
 refine wpAny_bind (wpAny_dictEntries g2 d2 ?_)
 rw [if_neg (by rw [same]; simp)]
 refine wpAny_bind (wpAny_dictEpoch g1 d1 (wpAny_bind ?_))
 rw [Std.Legacy.Range.forIn_eq_forIn_range']
 simp only [Std.Legacy.Range.size, Nat.sub_zero, Nat.add_sub_cancel, Nat.div_one]
 refine wpAny_forIn_list _ (fun rest q s' => s' = s ∧ q = (none, ()) ∧ ∃ i, rest = List.range' i (m1.size - i) ∧ i ≤ m1.size) _ ?_ ?_ _ _ ⟨rfl, rfl, 0, by simp, Nat.zero_le _⟩
 · rintro x rest q s' ⟨rfl, rfl, i, hr, hi⟩
   have lt0 : i < m1.size := by
    rcases Nat.lt_or_ge i m1.size with z | z
    · exact z
    · rw [Nat.sub_eq_zero_of_le z] at hr; simp at hr
   obtain ⟨rfl, ht⟩ : x = i ∧ rest = List.range' (i + 1) (m1.size - (i + 1)) := by
    have e : m1.size - i = (m1.size - (i + 1)) + 1 := by omega
    rw [e, List.range'_succ] at hr
    injection hr with z1 z2
    exact ⟨z1, z2⟩
   refine wpAny_bind (wpAny_dictEntries g1 d1 ?_)
   rw [Array.getElem?_eq_getElem lt0]
   have lt1 : x < ka.length := by omega
   obtain ⟨k, v, kv⟩ : ∃ k v, ka[x] = (k, v) := ⟨_, _, rfl⟩
   have kv' : ka[x]? = some (k, v) := by rw [List.getElem?_eq_getElem lt1, kv]
   obtain ⟨hkey, hval⟩ := z1.get? (i := x) (e := m1[x]) (k := k) (v := v) (by rw [Array.getElem?_toList]; exact Array.getElem?_eq_getElem lt0) kv'
   obtain ⟨k', hk', hh⟩ := q1 m1[x] (Array.getElem_mem lt0)
   have ekk : k' = k := knd.inj _ _ _ hk' hkey
   rw [ekk] at hh
   obtain ⟨y, hy, he⟩ := hits x k v kv'
   show wpAny _ _ (holding [m1[x].key, m1[x].val] _ >>= _) _ _ _
   rw [hh]
   refine wpAny_bind (wpAny_holding (wpAny_bind (wpAny_dictFind_of hkey g2 d2 q2 ?_)))
   cases hj : m2.findIdx? fun e => knd.is k e.key with
   | none =>
    have : valueAt kb k = none := by rw [← look k, findBy_of_findIdx?, hj]
    rw [this] at hy; cases hy
   | some j =>
    obtain ⟨jlt, _, _⟩ := Array.findIdx?_eq_some_iff_getElem.mp hj
    have hv' : valueAt kb k = some m2[j].val := by
     rw [← look k, findBy_of_findIdx?, hj]
     simp [Array.getElem?_eq_getElem jlt]
    refine wpAny_bind (wpAny_dictEntries g2 d2 ?_)
    rw [Array.getElem?_eq_getElem jlt]
    have ey : m2[j].val = y := Option.some.inj (hv'.symm.trans hy)
    rw [← ey, ← hval] at he
    refine wpAny_holding (he _ _ ?_)
    show wpAny _ _ (if (!true) = true then _ else _) _ _ _
    rw [if_neg (by decide)]
    refine wpAny_bind (wpAny_dictEpoch g1 d1 ?_)
    rw [if_neg (by simp)]
    exact wpAny_pure ⟨rfl, rfl, x + 1, ht, lt0⟩
 · rintro q s' ⟨rfl, rfl, i, hr, hi⟩
   exact wpAny_pure h
theorem zeT {a b : Addr} {ka kb : List (κ × Value)} {Q : Value → Shared → Prop} (ha : (a == sysModules) = false) (hb : (b == sysModules) = false)
 (da : s.heap.DictOf knd a ka) (db : s.heap.DictOf knd b kb) (hu : A.units < cLine) (hlen : ka.length = kb.length) (hits : ∀ (i : Nat) (k : κ) (v : Value), ka[i]? = some (k, v) → ∃ y, valueAt kb k = some y ∧ EqIn P w A.in1 s v y) (h : Q (.bool true) s) :
 wpAny (model P w) A (richCompare .Eq (.ref a) (.ref b)) Q E s := by
 refine wpAny_richCompare_same_room (op := .Eq) da.typeIs db.typeIs PySem.F.slot_dict_eq (wpAny_call_entry PySem.F.slot_dict_eq da.typeIs PySem.F.entry_dict_eq ?_ (PySem.F.args_dict_eq_2 _ _)) hu
 show wpAny _ _ (Builtin.Dict.dictSlotArgs "__eq__" ⟨[.ref a, .ref b], []⟩ >>= _) _ _ s
 unfold Builtin.Dict.dictSlotArgs
 refine wpAny_bind (wpAny_bind (wpAny_notOrdered_dict da.typeIs ?_))
 show wpAny _ _ (pure (Value.ref a, Value.ref b)) _ _ s
 refine wpAny_pure (wpAny_bind (wpAny_isInstance (T := "dict") db.typeIs PySem.F.sub_dict_dict ?_))
 simp only [Bool.not_true, Bool.false_eq_true, if_false]
 refine wpAny_bind (wpAny_pure (wpAny_bind (wpAny_pure (wpAny_bind (zg1 ha hb da db hlen hits ?_)))))
 exact wpAny_pure ⟨_, rfl, (fun x => nomatch x), by simpa using h⟩
end
end L2
namespace L2
open PySem PySem.Spec PyProof.Rows
inductive DY where
 | non
 | bl (b : Bool)
 | int (i : Int)
 | str (x : Str)
 | lst (ds : List DY)
 | tup (ds : List DY)
 | dic
 | da (d : DY)
mutual
def RepY (H : Hp) : DY → V → Prop
 | .non, v => v = .non
 | .bl b, v => v = .bl b
 | .int i, v => v = .int i
 | .str x, v => v = .str x ∧ x.length ≤ 900
 | .lst ds, v => ∃ a xs, v = .ref a ∧ H a = some (.lst xs) ∧ ds.length ≤ 900 ∧ RepYs H ds xs
 | .tup ds, v => ∃ a xs, v = .ref a ∧ H a = some (.tup xs) ∧ ds.length ≤ 900 ∧ RepYs H ds xs
 | .dic, v => ∃ a, v = .ref a ∧ H a = some (.dK [])
 | .da d, v => ∃ a u, v = .ref a ∧ H a = some (.dK [(.inr "a", u)]) ∧ RepY H d u
def RepYs (H : Hp) : List DY → List V → Prop
 | [], xs => xs = []
 | d :: ds, xs => ∃ x r, xs = x :: r ∧ RepY H d x ∧ RepYs H ds r
end
mutual
theorem RepY.same {H H' : Hp} (s : Same H H') : ∀ (d : DY) {v : V}, RepY H d v → RepY H' d v
 | .non, v, h => by rw [RepY] at *; exact h
 | .bl b, v, h => by rw [RepY] at *; exact h
 | .int i, v, h => by rw [RepY] at *; exact h
 | .str x, v, h => by rw [RepY] at *; exact h
 | .lst ds, v, h => by rw [RepY] at *; obtain ⟨a, xs, e, h1, h0, h2⟩ := h; exact ⟨a, xs, e, s _ _ h1, h0, RepYs.same s ds h2⟩
 | .tup ds, v, h => by rw [RepY] at *; obtain ⟨a, xs, e, h1, h0, h2⟩ := h; exact ⟨a, xs, e, s _ _ h1, h0, RepYs.same s ds h2⟩
 | .dic, v, h => by rw [RepY] at *; obtain ⟨a, e, h1⟩ := h; exact ⟨a, e, s _ _ h1⟩
 | .da d, v, h => by rw [RepY] at *; obtain ⟨a, u, e, h1, h2⟩ := h; exact ⟨a, u, e, s _ _ h1, RepY.same s d h2⟩
theorem RepYs.same {H H' : Hp} (s : Same H H') : ∀ (ds : List DY) {xs : List V}, RepYs H ds xs → RepYs H' ds xs
 | [], xs, h => by rw [RepYs] at *; exact h
 | d :: ds, xs, h => by rw [RepYs] at *; obtain ⟨x, r, e, h1, h2⟩ := h; exact ⟨x, r, e, RepY.same s d h1, RepYs.same s ds h2⟩
end
theorem RepYs.length {H : Hp} : ∀ {ds : List DY} {xs : List V}, RepYs H ds xs → xs.length = ds.length
 | [], xs, h => by rw [RepYs] at h; rw [h]; rfl
 | d :: ds, xs, h => by
  rw [RepYs] at h
  obtain ⟨x, r, rfl, _, h⟩ := h
  rw [List.length_cons, List.length_cons, RepYs.length h]
theorem RepYs.get {H : Hp} : ∀ {ds : List DY} {xs : List V} {i : Nat} {x : V}, RepYs H ds xs → xs[i]? = some x → ∃ d, ds[i]? = some d ∧ RepY H d x
 | [], xs, i, x, h, e => by rw [RepYs] at h; subst h; simp at e
 | d :: ds, xs, 0, x, h, e => by
  rw [RepYs] at h
  obtain ⟨y, r, rfl, h1, h2⟩ := h
  simp at e
  subst e
  exact ⟨d, rfl, h1⟩
 | d :: ds, xs, i + 1, x, h, e => by
  rw [RepYs] at h
  obtain ⟨y, r, rfl, h1, h2⟩ := h
  simp at e
  obtain ⟨d', e1, e2⟩ := RepYs.get h2 e
  exact ⟨d', by simpa using e1, e2⟩
mutual
def zaX : DY → Nat
 | .lst ds => zbu ds + 1
 | .tup ds => zbu ds + 1
 | .da d => zaX d + 1
 | _ => 0
def zbu : List DY → Nat
 | [] => 0
 | d :: ds => max (zaX d) (zbu ds)
end
section
variable {X : Cx} {pins : List (Addr × Obj)} {σ : St} {H : Hp} {s : Shared}
theorem zc0 {P : Program} {w : World} {A : Around} {l b : Addr} (h : ∀ (E : Value → Shared → Prop) (Q : Value → Shared → Prop), Q (.bool true) s → wpAny (model P w) A (richCompare .Eq (.ref l) (.ref b)) Q E s) : EqIn P w A s (.ref l) (.ref b) := fun E Q hq => by
 by_cases e : l = b
 · subst e
   exact SeqAt.EqAt.same (.ref l) P w E Q hq
 · unfold eqBool
   refine wpAny_holding ?_
   refine wpAny_ite_split (fun hab => absurd (by have := eq_of_beq hab; injection this) e) (fun _ => ?_)
   exact wpAny_bind (h E _ (wpAny_truthy_bool hq))
mutual
theorem ze7 (I : Inv X pins σ H s) : ∀ (A : Around) (d : DY) (v v' : V) (u u' : Value), RepY H d v → RepY H d v' → RelV v u → RelV v' u' → A.units + zaX d < cLine → EqIn X.prog X.w A s u u'
 | A, .non, v, v', u, u', h, h', r, r', z => by
  rw [RepY] at h h'
  subst h h'
  exact EqIn.of (zc1 I A .non .non _ _ _ _ (by rw [Rep]) (by rw [Rep]) r r' (show A.units + 0 < cLine by omega))
 | A, .bl b, v, v', u, u', h, h', r, r', z => by
  rw [RepY] at h h'
  subst h h'
  have := zc1 I A (.bl b) (.bl b) _ _ _ _ (by rw [Rep]) (by rw [Rep]) r r' (show A.units + 0 < cLine by omega)
  rw [zbb] at this
  exact EqIn.of this
 | A, .int b, v, v', u, u', h, h', r, r', z => by
  rw [RepY] at h h'
  subst h h'
  have := zc1 I A (.int b) (.int b) _ _ _ _ (by rw [Rep]) (by rw [Rep]) r r' (show A.units + 0 < cLine by omega)
  rw [zbb] at this
  exact EqIn.of this
 | A, .str b, v, v', u, u', h, h', r, r', z => by
  rw [RepY] at h h'
  obtain ⟨rfl, _⟩ := h
  obtain ⟨rfl, _⟩ := h'
  have := zc1 I A (.str b) (.str b) _ _ _ _ (by rw [Rep]) (by rw [Rep]) r r' (show A.units + 0 < cLine by omega)
  rw [zbb] at this
  exact EqIn.of this
 | A, .lst ds, v, v', u, u', h, h', r, r', z => by
  rw [RepY] at h h'
  obtain ⟨a, xs, rfl, h1, _, h2⟩ := h
  obtain ⟨a', xs', rfl, h1', _, h2'⟩ := h'
  cases (show u = Value.ref a from r)
  cases (show u' = Value.ref a' from r')
  obtain ⟨_, its, n, rv, hg⟩ := (show ObjOk X.prog X.w H s.heap a (.lst xs) from I.hok a _ h1)
  obtain ⟨_, its', n', rv', hg'⟩ := (show ObjOk X.prog X.w H s.heap a' (.lst xs') from I.hok a' _ h1')
  have l1 := h2.length
  have l2 := h2'.length
  have l3 := rv.length
  have l4 := rv'.length
  rw [zaX] at z
  refine zc0 fun E Q q => zik ⟨_, hg, rfl, _, rfl⟩ ⟨_, hg', rfl, _, rfl⟩ (by simp only [List.size_toArray]; omega) (by omega) (fun j k1 k2 => ?_) q
  have := zcm I A.in1 ds xs xs' its its' h2 h2' rv rv' (by rw [Around.in1_units]; omega) j (by simpa using k1) (by simpa using k2)
  simpa using this
 | A, .tup ds, v, v', u, u', h, h', r, r', z => by
  rw [RepY] at h h'
  obtain ⟨a, xs, rfl, h1, _, h2⟩ := h
  obtain ⟨a', xs', rfl, h1', _, h2'⟩ := h'
  cases (show u = Value.ref a from r)
  cases (show u' = Value.ref a' from r')
  obtain ⟨_, its, rv, o, hg, hc, _, n, hd⟩ := (show ObjOk X.prog X.w H s.heap a (.tup xs) from I.hok a _ h1)
  obtain ⟨_, its', rv', o', hg', hc', _, n', hd'⟩ := (show ObjOk X.prog X.w H s.heap a' (.tup xs') from I.hok a' _ h1')
  have l1 := h2.length
  have l2 := h2'.length
  have l3 := rv.length
  have l4 := rv'.length
  rw [zaX] at z
  refine zc0 fun E Q q => zha ⟨_, hg, hc, _, hd⟩ ⟨_, hg', hc', _, hd'⟩ (by simp only [List.size_toArray]; omega) (by omega) (fun j k1 k2 => ?_) q
  have := zcm I A.in1 ds xs xs' its its' h2 h2' rv rv' (by rw [Around.in1_units]; omega) j (by simpa using k1) (by simpa using k2)
  simpa using this
 | A, .dic, v, v', u, u', h, h', r, r', z => by
  rw [RepY] at h h'
  obtain ⟨a, rfl, h1⟩ := h
  obtain ⟨a', rfl, h1'⟩ := h'
  cases (show u = Value.ref a from r)
  cases (show u' = Value.ref a' from r')
  obtain ⟨_, hS, vs, rk, dd⟩ := zeh I.hok h1
  obtain ⟨_, hS', vs', rk', dd'⟩ := zeh I.hok h1'
  cases rk
  cases rk'
  exact zc0 fun E Q q => zeT hS hS' dd dd' (by omega) rfl (fun i k v e => by simp at e) q
 | A, .da d, v, v', u, u', h, h', r, r', z => by
  rw [RepY] at h h'
  obtain ⟨a, y, rfl, h1, h2⟩ := h
  obtain ⟨a', y', rfl, h1', h2'⟩ := h'
  cases (show u = Value.ref a from r)
  cases (show u' = Value.ref a' from r')
  obtain ⟨_, hS, vs, rk, dd⟩ := zeh I.hok h1
  obtain ⟨_, hS', vs', rk', dd'⟩ := zeh I.hok h1'
  rw [zaX] at z
  have l1 : 1 = vs.length := KV.length rk
  have l2 : 1 = vs'.length := KV.length rk'
  refine zc0 fun E Q q => zeT hS hS' dd dd' (by omega) (by omega) (fun i k w e => ?_) q
  cases rk with
  | cons p1 p2 =>
   cases p2
   cases rk' with
   | cons p1' p2' =>
    cases p2'
    rename_i kw kw'
    obtain ⟨k0, w0⟩ := kw
    obtain ⟨k0', w0'⟩ := kw'
    obtain ⟨e1, r1⟩ := p1
    obtain ⟨e1', r1'⟩ := p1'
    dsimp only at e1 e1' r1 r1'
    subst e1 e1'
    cases i with
    | succ i => simp at e
    | zero =>
     simp at e
     obtain ⟨rfl, rfl⟩ := e
     refine ⟨w0', by simp [valueAt], ze7 I A.in1 d y y' w0 w0' h2 h2' r1 r1' (by rw [Around.in1_units]; omega)⟩
theorem zcm (I : Inv X pins σ H s) : ∀ (A : Around) (ds : List DY) (vs ws : List V) (us ys : List Value), RepYs H ds vs → RepYs H ds ws → Vals vs us → Vals ws ys → A.units + zbu ds < cLine →
 ∀ (j : Nat) (h1 : j < us.length) (h2 : j < ys.length), EqIn X.prog X.w A s us[j] ys[j]
 | A, [], vs, ws, us, ys, h, h', r, r', z => by
  rw [RepYs] at h
  subst h
  cases r
  intro j h1
  simp at h1
 | A, d :: ds, vs, ws, us, ys, h, h', r, r', z => by
  rw [RepYs] at h h'
  obtain ⟨x, q, rfl, g1, g2⟩ := h
  obtain ⟨x', q', rfl, g1', g2'⟩ := h'
  rw [zbu] at z
  cases r with
  | cons r1 r2 =>
   cases r' with
   | cons r1' r2' =>
    intro j h1 h2
    cases j with
    | zero => exact ze7 I A d x x' _ _ g1 g1' r1 r1' (by omega)
    | succ j => exact zcm I A ds q q' _ _ g2 g2' r2 r2' (by omega) j (by simpa using h1) (by simpa using h2)
end
end
section
variable {X : Cx} {pins : List (Addr × Obj)} {σ : St} {H : Hp} {s : Shared}
theorem zjw (I : Inv X pins σ H s) (A : Around) (d : DY) (v v' : V) (u u' : Value) (h : RepY H d v) (h' : RepY H d v') (r : RelV v u) (r' : RelV v' u') (z : A.units + zaX d < cLine) {E : Value → Shared → Prop} {Q : Value → Shared → Prop} (q : Q (.bool true) s) :
 wpAny (model X.prog X.w) A (richCompare .Eq u u') Q E s := by
 cases d with
 | non =>
  rw [RepY] at h h'
  subst h h'
  exact zdB I A .non .non _ _ _ _ (by rw [Rep]) (by rw [Rep]) r r' (show A.units + 0 < cLine by omega) X.prog X.w _ _ q
 | bl b =>
  rw [RepY] at h h'
  subst h h'
  have := zdB I A (.bl b) (.bl b) _ _ _ _ (by rw [Rep]) (by rw [Rep]) r r' (show A.units + 0 < cLine by omega)
  rw [zbb] at this
  exact this X.prog X.w _ _ q
 | int b =>
  rw [RepY] at h h'
  subst h h'
  have := zdB I A (.int b) (.int b) _ _ _ _ (by rw [Rep]) (by rw [Rep]) r r' (show A.units + 0 < cLine by omega)
  rw [zbb] at this
  exact this X.prog X.w _ _ q
 | str b =>
  rw [RepY] at h h'
  obtain ⟨rfl, _⟩ := h
  obtain ⟨rfl, _⟩ := h'
  have := zdB I A (.str b) (.str b) _ _ _ _ (by rw [Rep]) (by rw [Rep]) r r' (show A.units + 0 < cLine by omega)
  rw [zbb] at this
  exact this X.prog X.w _ _ q
 | lst ds =>
  rw [RepY] at h h'
  obtain ⟨a, xs, rfl, h1, _, h2⟩ := h
  obtain ⟨a', xs', rfl, h1', _, h2'⟩ := h'
  cases (show u = Value.ref a from r)
  cases (show u' = Value.ref a' from r')
  obtain ⟨_, its, n, rv, hg⟩ := (show ObjOk X.prog X.w H s.heap a (.lst xs) from I.hok a _ h1)
  obtain ⟨_, its', n', rv', hg'⟩ := (show ObjOk X.prog X.w H s.heap a' (.lst xs') from I.hok a' _ h1')
  have l1 := h2.length
  have l2 := h2'.length
  have l3 := rv.length
  have l4 := rv'.length
  rw [zaX] at z
  refine zik ⟨_, hg, rfl, _, rfl⟩ ⟨_, hg', rfl, _, rfl⟩ (by simp only [List.size_toArray]; omega) (by omega) (fun j k1 k2 => ?_) q
  have := zcm I A.in1 ds xs xs' its its' h2 h2' rv rv' (by rw [Around.in1_units]; omega) j (by simpa using k1) (by simpa using k2)
  simpa using this
 | tup ds =>
  rw [RepY] at h h'
  obtain ⟨a, xs, rfl, h1, _, h2⟩ := h
  obtain ⟨a', xs', rfl, h1', _, h2'⟩ := h'
  cases (show u = Value.ref a from r)
  cases (show u' = Value.ref a' from r')
  obtain ⟨_, its, rv, o, hg, hc, _, n, hd⟩ := (show ObjOk X.prog X.w H s.heap a (.tup xs) from I.hok a _ h1)
  obtain ⟨_, its', rv', o', hg', hc', _, n', hd'⟩ := (show ObjOk X.prog X.w H s.heap a' (.tup xs') from I.hok a' _ h1')
  have l1 := h2.length
  have l2 := h2'.length
  have l3 := rv.length
  have l4 := rv'.length
  rw [zaX] at z
  refine zha ⟨_, hg, hc, _, hd⟩ ⟨_, hg', hc', _, hd'⟩ (by simp only [List.size_toArray]; omega) (by omega) (fun j k1 k2 => ?_) q
  have := zcm I A.in1 ds xs xs' its its' h2 h2' rv rv' (by rw [Around.in1_units]; omega) j (by simpa using k1) (by simpa using k2)
  simpa using this
 | dic =>
  rw [RepY] at h h'
  obtain ⟨a, rfl, h1⟩ := h
  obtain ⟨a', rfl, h1'⟩ := h'
  cases (show u = Value.ref a from r)
  cases (show u' = Value.ref a' from r')
  obtain ⟨_, hS, vs, rk, dd⟩ := zeh I.hok h1
  obtain ⟨_, hS', vs', rk', dd'⟩ := zeh I.hok h1'
  cases rk
  cases rk'
  exact zeT hS hS' dd dd' (by omega) rfl (fun i k v e => by simp at e) q
 | da d =>
  rw [RepY] at h h'
  obtain ⟨a, y, rfl, h1, h2⟩ := h
  obtain ⟨a', y', rfl, h1', h2'⟩ := h'
  cases (show u = Value.ref a from r)
  cases (show u' = Value.ref a' from r')
  obtain ⟨_, hS, vs, rk, dd⟩ := zeh I.hok h1
  obtain ⟨_, hS', vs', rk', dd'⟩ := zeh I.hok h1'
  rw [zaX] at z
  have l1 : 1 = vs.length := KV.length rk
  have l2 : 1 = vs'.length := KV.length rk'
  refine zeT hS hS' dd dd' (by omega) (by omega) (fun i k w e => ?_) q
  cases rk with
  | cons p1 p2 =>
   cases p2
   cases rk' with
   | cons p1' p2' =>
    cases p2'
    rename_i kw kw'
    obtain ⟨k0, w0⟩ := kw
    obtain ⟨k0', w0'⟩ := kw'
    obtain ⟨e1, r1⟩ := p1
    obtain ⟨e1', r1'⟩ := p1'
    dsimp only at e1 e1' r1 r1'
    subst e1 e1'
    cases i with
    | succ i => simp at e
    | zero =>
     simp at e
     obtain ⟨rfl, rfl⟩ := e
     refine ⟨w0', by simp [valueAt], ze7 I A.in1 d y y' w0 w0' h2 h2' r1 r1' (by rw [Around.in1_units]; omega)⟩
end
section
variable {X : Cx}
def rEqY : R2 := fun x y H Q => ∃ d, RepY H d x ∧ RepY H d y ∧ zaX d < 60 ∧ Q (.bl true) H
theorem zlz (hr : zhW X) : OpR X (compareOp .Eq) rEqY := by
 intro pins s σ H x y v u Q I rx ry h
 obtain ⟨d, h1, h2, h3, q⟩ := h
 unfold zhW at hr
 exact zjw I X.A d x y v u h1 h2 rx ry (by omega) ⟨.bl true, H, I, rfl, q⟩
theorem zdn : zdg X (.builtin "isinstance") (fun xs H Q => ∃ x t tp cs b, xs = [x, .ref tp] ∧ TyOf X.K H x (.type t) ∧ H tp = some (.tup cs) ∧ cs.all zi1 = true ∧ PySem.W.kitAny X.K (.type t) (cs.map clsV) = some b ∧ Q (.bl b) H) := by
 intro pins s σ H xs us Q I r h
 obtain ⟨x, t, tp, cs, b, rfl, ty, ht, hc, e, q⟩ := h
 obtain ⟨u, w', rfl, ru, rw'⟩ := zhu r
 cases (show w' = Value.ref tp from rw')
 obtain ⟨_, its, rv, o, h1, h2, h3, n, h4⟩ := (show ObjOk X.prog X.w H s.heap tp (.tup cs) from I.hok tp _ ht)
 obtain ⟨oc, od, oda, osl⟩ := o
 dsimp only at h2 h3 h4
 subst h2 h3 h4
 have hi : its = cs.map clsV := zfJ hc rv
 subst hi
 have fin : ∀ tk, EP X pins σ Q (.bool b) { s with toks := tk } := fun tk => ⟨.bl b, H, I.tok tk, rfl, q⟩
 generalize ht' : (Value.type t) = T at ty e
 cases ty with
 | non => cases (show u = Value.none from ru); exact PySem.W.kia_tup PySem.W.kitx_none I.kIn True.intro h1 e (fun z => nomatch z) fin
 | bl y => cases (show u = Value.bool y from ru); exact PySem.W.kia_tup PySem.W.kitx_bool I.kIn True.intro h1 e (fun z => nomatch z) fin
 | int i => obtain ⟨t, q⟩ := (show ∃ t, u = Value.int i t from ru); cases q; exact PySem.W.kia_tup PySem.W.kitx_int I.kIn True.intro h1 e (fun z => nomatch z) fin
 | str y => obtain ⟨t, q⟩ := (show ∃ t, u = Value.str y t from ru); cases q; exact PySem.W.kia_tup PySem.W.kitx_str I.kIn True.intro h1 e (fun z => nomatch z) fin
 | flt y => obtain ⟨t, q⟩ := (show ∃ t, u = Value.float y t from ru); cases q; exact PySem.W.kia_tup PySem.W.kitx_float I.kIn True.intro h1 e (fun z => nomatch z) fin
 | @lst a xs ea =>
  cases (show u = Value.ref a from ru)
  obtain ⟨_, _, n, _, g1⟩ := (show ObjOk X.prog X.w H s.heap a (.lst xs) from I.hok a _ ea)
  exact PySem.W.kia_tup PySem.W.kitx_list I.kIn ⟨_, g1, rfl⟩ h1 e (fun z => nomatch z) fin
 | @tup a xs ea =>
  cases (show u = Value.ref a from ru)
  obtain ⟨_, _, _, o, g1, g2, _⟩ := (show ObjOk X.prog X.w H s.heap a (.tup xs) from I.hok a _ ea)
  exact PySem.W.kia_tup PySem.W.kitx_tuple I.kIn ⟨o, g1, g2⟩ h1 e (fun z => nomatch z) fin
 | @dK a kvs ea =>
  cases (show u = Value.ref a from ru)
  obtain ⟨_, _, vs, _, p⟩ := (show ObjOk X.prog X.w H s.heap a (.dK kvs) from I.hok a _ ea)
  obtain ⟨o, es, ep, g1, g2, _⟩ := p
  exact PySem.W.kia_tup PySem.W.kitx_dict I.kIn ⟨o, g1, g2.1⟩ h1 e (fun z => nomatch z) fin
 | @frz a ob xs ea =>
  cases (show u = Value.ref a from ru)
  obtain ⟨_, _, _, n, _, g1⟩ := (show ObjOk X.prog X.w H s.heap a (.frz ob (.lst xs)) from I.hok a _ ea)
  exact PySem.W.kia_tup PySem.W.kitx_list I.kIn ⟨_, g1, rfl⟩ h1 e (fun z => nomatch z) fin
 | @dT a kvs ea =>
  cases (show u = Value.ref a from ru)
  obtain ⟨_, _, xs, _, o, es, ep, g1, g2, _⟩ := (show ObjOk X.prog X.w H s.heap a (.dT kvs) from I.hok a _ ea)
  exact PySem.W.kia_tup PySem.W.kitx_dict I.kIn ⟨o, g1, g2.1⟩ h1 e (fun z => nomatch z) fin
 | ins => cases ht'
end
section
variable {X : Cx}
def strE : V → Option Str
 | .non => some "None"
 | .int i => some (toString i)
 | _ => none
theorem zfK : zdg X (.type "str") (fun xs H Q => ∃ x y, xs = [x] ∧ strE x = some y ∧ (∀ i, x = .int i → i.natAbs.log2 < 1920) ∧ Q (.str y) H) := by
 intro pins s σ H xs us Q I r h
 obtain ⟨x, y, rfl, e, hz, q⟩ := h
 obtain ⟨u, rfl, ru⟩ := zc3 r
 cases x with
 | non =>
  cases (show u = Value.none from ru)
  cases e
  exact PySem.P.str_of_none ⟨.str _, H, I.tok _, ⟨_, rfl⟩, q⟩
 | int i =>
  obtain ⟨t, rfl⟩ := (show ∃ t, u = Value.int i t from ru)
  cases e
  exact PySem.P.str_of_int (hz i rfl) ⟨.str _, H, I.tok _, ⟨_, rfl⟩, q⟩
 | _ => cases e
end
theorem ze5 : typeLookup (.type "tuple") "keys" = pure none := by rw [typeLookup_type, builtinLookup_eq_fast]; kernel_rfl
set_option maxHeartbeats 4000000 in
theorem tup_no_keys {prog : Program} {w : World} {A : Around} {E : Value → Shared → Prop} {a : Addr} {its : Array Value} {n : Nat} {sl : Array (Option Value)} {h : Heap} {g d t os} {Q : Option Value → Shared → Prop}
 (hh : A.handled = none) (hx : h.get? a = some { cls := .type "tuple", dict := none, data := .seq its n, slots := sl })
 (q : ∀ h' tk, (∀ b o, h.get? b = some o → h'.get? b = some o) → Q none ⟨h', g, d, tk, os⟩) : wpAny (model prog w) A (getAttr? (.ref a) "keys") Q E ⟨h, g, d, t, os⟩ := by
 have y0 : ∀ tk', (⟨h, g, d, tk', os⟩ : Shared).TypeIs (.ref a) "tuple" := fun _ => ⟨_, hx, rfl⟩
 have y1 := sub_AttributeError
 have y2 := F.slot_tuple_getattribute.lookup
 have y3 := F.slot_tuple_getattribute.bind (.ref a)
 have y4 := am_tuple_getattr_none
 unfold getAttr? getAttrBy? getAttrBy
 repeat (any_goals (first
  | assumption
  | exact y0 _
  | ((with_reducible show wpAny _ _ (call (Value.builtin "tuple.__getattribute__") _ _) _ _ _)
     refine call_meets F.slot_tuple_getattribute (y0 _) am_entry_tuple_getattribute (F.args_tuple_getattribute_2 _ _) (meets_getattribute_miss_tuple a its n sl "keys" _ ze5 (by decide +kernel)) ⟨hx, hh, fun h' tk' e hx' => ?_⟩)
  | wp_step))
 obtain ⟨t', u', he⟩ := hx'.there
 show wpAny _ _ (getattributeRaised _ _ _ _ _ _ _) _ _ _
 unfold getattributeRaised
 repeat (any_goals (first | assumption | wp_step))
 exact q _ _ hx'.keeps
section
variable {prog : Program} {w : World} {A : Around} {E : Value → Shared → Prop} {s : Shared}
end
section
variable {X : Cx}
end
def endV : V → Bool
 | .non => true
 | .int _ => true
 | _ => false
def leV : V → V → Bool
 | .int i, .int j => decide (i ≤ j)
 | _, _ => true
def zbt (H : Hp) : V → Bool
 | .ref a => match H a with
  | some (.tup [x, y]) => endV x && endV y && leV x y
  | _ => false
 | _ => false
def SpanAt (H : Hp) (v : V) (lo hi : Option Int) : Prop := ∃ a, v = .ref a ∧ H a = some (.tup [eV lo, eV hi])
def leO : Option Int → Option Int → Bool
 | some i, some j => decide (i ≤ j)
 | _, _ => true
theorem zi0 {H : Hp} {v : V} {lo hi : Option Int} (h : SpanAt H v lo hi) : zbt H v = leO lo hi := by
 obtain ⟨a, rfl, e⟩ := h
 unfold zbt
 simp only [e]
 cases lo <;> cases hi <;> simp [eV, endV, leV, leO]
theorem SpanAt.same {H H' : Hp} {v : V} {lo hi : Option Int} (h : SpanAt H v lo hi) (s : Same H H') : SpanAt H' v lo hi := by
 obtain ⟨a, e, q⟩ := h
 exact ⟨a, e, s _ _ q⟩
theorem zk9 {K : PySem.W.Frag} {H : Hp} (o : Option Int) : ∃ t, TyOf K H (eV o) (.type t) := by
 cases o with
 | none => exact ⟨_, .non⟩
 | some i => exact ⟨_, .int i⟩
def zfY (K : PySem.W.Frag) : Sp := fun vs H Q _ => ∃ (v : V) (t : String), vs = [v] ∧ TyOf K H v (.type t) ∧ Q (.bl (t == "int")) H
def zkw (K : PySem.W.Frag) : Sp := fun vs H Q _ => ∃ (v : V) (t : String), vs = [v] ∧ TyOf K H v (.type t) ∧ Q (.bl (endV v)) H
def zkk (K : PySem.W.Frag) (H : Hp) (v : V) : Prop := ∀ a x y, v = .ref a → H a = some (.tup [x, y]) → ∃ t1 t2, TyOf K H x (.type t1) ∧ TyOf K H y (.type t2)
def zeK (K : PySem.W.Frag) : Sp := fun vs H Q _ => ∃ (v : V) (t : String), vs = [v] ∧ TyOf K H v (.type t) ∧ zkk K H v ∧ Q (.bl (zbt H v)) H
theorem SpanAt.ty {K : PySem.W.Frag} {H : Hp} {v : V} {lo hi : Option Int} (h : SpanAt H v lo hi) : TyOf K H v (.type "tuple") ∧ zkk K H v := by
 obtain ⟨a, rfl, q⟩ := h
 refine ⟨.tup q, fun a' x y e q' => ?_⟩
 cases e
 rw [q] at q'
 injection q' with q'
 injection q' with q'
 injection q' with e1 e2
 injection e2 with e2 _
 subst e1 e2
 obtain ⟨t1, h1⟩ := zk9 (K := K) (H := H) lo
 obtain ⟨t2, h2⟩ := zk9 (K := K) (H := H) hi
 exact ⟨t1, t2, h1, h2⟩
def zgU : Option Int → Option Int → Bool
 | none, _ => true
 | some _, none => false
 | some l, some o => decide (l ≤ o)
def upB : Option Int → Option Int → Bool
 | none, _ => true
 | some _, none => false
 | some h, some o => decide (o ≤ h)
def zem (lo hi lo2 hi2 : Option Int) : Bool := zgU lo lo2 && upB hi hi2
def mLo : Option Int → Option Int → Option Int
 | none, o => o
 | some l, none => some l
 | some l, some o => some (if l < o then o else l)
def mHi : Option Int → Option Int → Option Int
 | none, o => o
 | some h, none => some h
 | some h, some o => some (if o < h then o else h)
def apart : Option Int → Option Int → Bool
 | some l, some h => decide (h < l)
 | _, _ => false
def zhX (H : Hp) (v : V) (lo hi : Option Int) : Prop := if apart lo hi = true then v = .non else SpanAt H v lo hi
def zf4 : Sp := fun vs H Q _ => ∃ (v w : V) (lo hi lo2 hi2 : Option Int), vs = [v, w] ∧ SpanAt H v lo hi ∧ SpanAt H w lo2 hi2 ∧ Q (.bl (zem lo hi lo2 hi2)) H
def zeF : Sp := fun vs H Q _ => ∃ (v w : V) (lo hi lo2 hi2 : Option Int), vs = [v, w] ∧ SpanAt H v lo hi ∧ SpanAt H w lo2 hi2 ∧ ∀ v' H', Same H H' → zhX H' v' (mLo lo lo2) (mHi hi hi2) → Q v' H'
theorem zjR (o1 o2 : Option Int) : ∃ ns : List Int, ([o1, o2].filter Option.isSome).map eV = ns.map V.int ∧ zjY (fun i j => decide (j < i)) ns .non = eV (mLo o1 o2) := by
 cases o1 with
 | none =>
  cases o2 with
  | none => exact ⟨[], rfl, rfl⟩
  | some b => exact ⟨[b], rfl, rfl⟩
 | some a =>
  cases o2 with
  | none => exact ⟨[a], rfl, rfl⟩
  | some b =>
   refine ⟨[a, b], rfl, ?_⟩
   show V.int (if decide (a < b) = true then b else a) = V.int (if a < b then b else a)
   by_cases h : a < b
   · rw [if_pos (decide_eq_true h), if_pos h]
   · rw [if_neg (by rw [decide_eq_false h]; exact Bool.false_ne_true), if_neg h]
theorem zjQ (o1 o2 : Option Int) : ∃ ns : List Int, ([o1, o2].filter Option.isSome).map eV = ns.map V.int ∧ zjY (fun i j => decide (i < j)) ns .non = eV (mHi o1 o2) := by
 cases o1 with
 | none =>
  cases o2 with
  | none => exact ⟨[], rfl, rfl⟩
  | some b => exact ⟨[b], rfl, rfl⟩
 | some a =>
  cases o2 with
  | none => exact ⟨[a], rfl, rfl⟩
  | some b =>
   refine ⟨[a, b], rfl, ?_⟩
   show V.int (if decide (b < a) = true then b else a) = V.int (if b < a then b else a)
   by_cases h : b < a
   · rw [if_pos (decide_eq_true h), if_pos h]
   · rw [if_neg (by rw [decide_eq_false h]; exact Bool.false_ne_true), if_neg h]
abbrev T15 : Int := 1000000000000000
def zhR (i : Int) : Int := if (if i < 10 ^ (15 : Int).toNat - 1 then i else 10 ^ (15 : Int).toNat - 1) > 1 - 10 ^ (15 : Int).toNat then (if i < 10 ^ (15 : Int).toNat - 1 then i else 10 ^ (15 : Int).toNat - 1) else 1 - 10 ^ (15 : Int).toNat
theorem e15 : (10 : Int) ^ (15 : Int).toNat = T15 := by decide
theorem zjN (i : Int) : (zhR i = i ∧ -T15 < i ∧ i < T15) ∨ (zhR i = T15 - 1 ∧ T15 ≤ i + 1) ∨ (zhR i = 1 - T15 ∧ i ≤ 1 - T15) := by
 unfold zhR
 rw [e15]
 unfold T15
 split <;> split <;> omega
def inT (o : Option Int) : Prop := ∀ i, o = some i → -T15 < i ∧ i < T15
structure Good (lo hi : Option Int) : Prop where
 le : leO lo hi = true
 lo : inT lo
 hi : inT hi
def zia : Sp := fun vs H Q _ => ∃ i : Int, vs = [.int i] ∧ Q (.int (zhR i)) H
def zeI : Sp := fun vs H Q _ => ∃ (b g l : Addr) (n : Int), vs = [.ref b] ∧ Bag H b g l n ∧ n ≤ 10 ^ 9 ∧ ∀ (r : Int) (H' : Hp), -T15 < r → r < T15 → Bag H' b g l (n + 3) → SameB b g H H' → Q (.int r) H'
def zh7 : Sp := fun vs H Q _ => ∃ (b g l : Addr) (n : Int), vs = [.ref b] ∧ Bag H b g l n ∧ n ≤ 10 ^ 8 ∧ ∀ (v : V) (lo hi : Option Int) (H' : Hp), SpanAt H' v lo hi → Good lo hi → Bag H' b g l (n + 8) → SameB b g H H' → Q v H'
theorem pw10 {j : Int} (h0 : 0 ≤ j) (h1 : j ≤ 1000) : zl8 10 j := ⟨h0, h1, by decide⟩
def zbz (c : Nat) : Bool := decide (97 ≤ c) && decide (c ≤ 122)
structure FieldOk (x : Str) : Prop where
 one : 1 ≤ x.length
 eight : x.length ≤ 8
 all : ∀ c ∈ x.cps.toList, zbz c = true
theorem zmu : ("a" : Str).cps.toList = [97] := by decide +kernel
theorem zmt : ("z" : Str).cps.toList = [122] := by decide +kernel
theorem ge_a {c : Nat} (h : zbz c = true) : (!decide ((⟨#[c]⟩ : Str).cps.toList < ("a" : Str).cps.toList)) = true := by
 rw [zmu]
 have h1 : 97 ≤ c := of_decide_eq_true ((Bool.and_eq_true _ _).mp h).1
 have : ¬ ([c] : List Nat) < [97] := by
  intro z
  cases z with
  | rel z => exact absurd z (by omega)
  | cons z => cases z
 show (!decide (([c] : List Nat) < [97])) = true
 rw [decide_eq_false this]
 rfl
theorem le_z {c : Nat} (h : zbz c = true) : (!decide (("z" : Str).cps.toList < (⟨#[c]⟩ : Str).cps.toList)) = true := by
 rw [zmt]
 have h1 : c ≤ 122 := of_decide_eq_true ((Bool.and_eq_true _ _).mp h).2
 have : ¬ ([122] : List Nat) < [c] := by
  intro z
  cases z with
  | rel z => exact absurd z (by omega)
  | cons z => cases z
 show (!decide (([122] : List Nat) < [c])) = true
 rw [decide_eq_false this]
 rfl
def zf8 : Sp := fun vs H Q _ => ∃ x : Str, vs = [.str x] ∧ FieldOk x ∧ ∀ H', Same H H' → Q (.bl true) H'
def zmv (H : Hp) (p : Addr) (f : Str) (lo hi : Option Int) : Prop := H p = some (.tup [.str f, eV lo, eV hi])
def zmw (H : Hp) (p : Addr) (f : Str) (n : Int) : Prop := H p = some (.tup [.str f, .int n])
def zc4 : Sp := fun vs H Q _ => ∃ (p : Addr) (f : Str) (lo hi : Option Int), vs = [.ref p] ∧ zmv H p f lo hi ∧ FieldOk f ∧ leO lo hi = true ∧ ∀ H', Same H H' → Q (.bl true) H'
def zcJ : Sp := fun vs H Q _ => ∃ (p : Addr) (f : Str) (n : Int), vs = [.ref p] ∧ zmw H p f n ∧ FieldOk f ∧ ∀ H', Same H H' → Q (.bl true) H'
def ltF (f g : Str) : Prop := f.cps.toList < g.cps.toList
def zeL : Sp := fun vs H Q _ => ∃ (a : Addr) (ps : List (Addr × Str × List V)), vs = [.ref a] ∧ H a = some (.tup (ps.map fun p => V.ref p.1)) ∧ ps.length ≤ 100 ∧ (∀ p ∈ ps, H p.1 = some (.tup (V.str p.2.1 :: p.2.2))) ∧
 (∀ (i : Nat) p q, ps[i]? = some p → ps[i + 1]? = some q → ltF p.2.1 q.2.1) ∧ ∀ H', Same H H' → Q (.bl true) H'
abbrev WP := Str × Option Int × Option Int
def WishAt (H : Hp) (a : Addr) (w : List WP) : Prop := ∃ ps : List (Addr × WP), ps.map (·.2) = w ∧ H a = some (.tup (ps.map fun p => V.ref p.1)) ∧ ∀ p ∈ ps, H p.1 = some (.tup [.str p.2.1, eV p.2.2.1, eV p.2.2.2])
theorem WishAt.keep {H H' : Hp} {a : Addr} {w : List WP} (h : WishAt H a w) (s : Tups H H') : WishAt H' a w := by
 obtain ⟨ps, e, h1, h2⟩ := h
 exact ⟨ps, e, s _ _ h1, fun p hp => s _ _ (h2 p hp)⟩
theorem WishAt.same {H H' : Hp} {a : Addr} {w : List WP} (h : WishAt H a w) (s : Same H H') : WishAt H' a w := h.keep s.tups
structure WOk (w : List WP) : Prop where
 len : w.length ≤ 100
 ok : ∀ p ∈ w, FieldOk p.1 ∧ leO p.2.1 p.2.2 = true
 asc : (w.map (·.1)).Pairwise ltF
def zaH (w : List WP) (f : Str) : Option (Option Int × Option Int) := (w.find? (fun p => decide (p.1 = f))).map (·.2)
theorem zfW {w : List WP} {f : Str} (h : ∀ p ∈ w, p.1 ≠ f) : zaH w f = none := by
 unfold zaH
 rw [List.find?_eq_none.mpr fun p hp z => h p hp (of_decide_eq_true z)]
 rfl
theorem zfV (w : List WP) (p : WP) (f : Str) (hn : zaH w p.1 = none) : zaH (w ++ [p]) f = if f = p.1 then some p.2 else zaH w f := by
 unfold zaH at *
 rw [List.find?_append]
 by_cases h : f = p.1
 · subst h
   rw [if_pos rfl]
   cases e : w.find? (fun q => decide (q.1 = p.1)) with
   | some q => rw [e] at hn; cases hn
   | none => simp
 · rw [if_neg h]
   cases e : w.find? (fun q => decide (q.1 = f)) with
   | some q => rfl
   | none => simp; exact fun z => h z.symm
theorem zlF {f g : Str} (h : ltF f g) : f ≠ g := fun e => by
 subst e
 exact List.lt_irrefl _ h
theorem WOk.fresh {w : List WP} (h : WOk w) {i : Nat} {p : WP} (hp : w[i]? = some p) : zaH (w.take i) p.1 = none := by
 refine zfW fun q hq e => ?_
 obtain ⟨j, hj⟩ := List.getElem?_of_mem hq
 rw [List.getElem?_take] at hj
 split at hj
 · rename_i lt
   have hi : i < w.length := (List.getElem?_eq_some_iff.mp hp).1
   have := List.pairwise_iff_getElem.mp h.asc j i (by rw [List.length_map]; omega) (by rw [List.length_map]; exact hi) lt
   rw [List.getElem_map, List.getElem_map] at this
   have e1 : w[j]'(by omega) = q := (List.getElem?_eq_some_iff.mp hj).2
   have e2 : w[i] = p := (List.getElem?_eq_some_iff.mp hp).2
   rw [e1, e2] at this
   exact zlF this e
 · cases hj
def DictSp (H : Hp) (d : Addr) (w : List WP) : Prop := ∃ kvs : List (Key × V), H d = some (.dK kvs) ∧ kvs.length ≤ w.length ∧ ∀ f : Str, match zaH w f with
 | none => valV kvs (.inr f) = none
 | some s => ∃ t, valV kvs (.inr f) = some (.ref t) ∧ H t = some (.tup [eV s.1, eV s.2])
theorem DictSp.same {H H' : Hp} {d : Addr} {w : List WP} (h : DictSp H d w) (s : Same H H') : DictSp H' d w := by
 obtain ⟨kvs, e, l, q⟩ := h
 refine ⟨kvs, s _ _ e, l, fun f => ?_⟩
 have := q f
 cases hs : zaH w f with
 | none => rw [hs] at this; exact this
 | some sp => rw [hs] at this; obtain ⟨t, h1, h2⟩ := this; exact ⟨t, h1, s _ _ h2⟩
def zel (other : List WP) (p : WP) : Bool := match zaH other p.1 with
 | none => false
 | some s => zem p.2.1 p.2.2 s.1 s.2
theorem zgq {other : List WP} {p : WP} (h : zaH other p.1 = none) : zel other p = false := by unfold zel; rw [h]
theorem zcL {other : List WP} {p : WP} {s : Option Int × Option Int} (h : zaH other p.1 = some s) : zel other p = zem p.2.1 p.2.2 s.1 s.2 := by unfold zel; rw [h]
def zci (one other : List WP) : Bool := one.all (zel other)
def zeJ : Sp := fun vs H Q _ => ∃ (a : Addr) (w : List WP), vs = [.ref a] ∧ WishAt H a w ∧ WOk w ∧ ∀ H', Same H H' → Q (.bl true) H'
def zdN : Sp := fun vs H Q _ => ∃ (a : Addr) (w : List WP), vs = [.ref a] ∧ WishAt H a w ∧ WOk w ∧ ∀ H', Same H H' → Q .non H'
def zdI : Sp := fun vs H Q _ => ∃ (a : Addr) (w : List WP), vs = [.ref a] ∧ WishAt H a w ∧ WOk w ∧ ∀ d H', Same H H' → H d = none → DictSp H' d w → Q (.ref d) H'
def zdK : Sp := fun vs H Q _ => ∃ (a d : Addr) (w w' : List WP), vs = [.ref a, .ref d] ∧ WishAt H a w ∧ DictSp H d w' ∧ ∀ H', Same H H' → Q (.bl (zci w w')) H'
def zcI : Sp := fun vs H Q _ => ∃ (a b : Addr) (w w' : List WP), vs = [.ref a, .ref b] ∧ WishAt H a w ∧ WishAt H b w' ∧ WOk w' ∧ ∀ H', Same H H' → Q (.bl (zci w w')) H'
def zdx : Option Int → Option Int → Int
 | some l, _ => l
 | none, some h => h
 | none, none => 0
def zcc (lo hi lo2 : Option Int) : Option Int := match lo2 with
 | none => none
 | some l => if apart lo (mHi hi (some (l - 1))) = true then none else some (zdx lo (mHi hi (some (l - 1))))
def zeb (lo hi hi2 : Option Int) : Option Int := match hi2 with
 | none => none
 | some h => if apart (mLo lo (some (h + 1))) hi = true then none else some (zdx (mLo lo (some (h + 1))) hi)
def zay (lo hi lo2 hi2 : Option Int) : Option Int := match zcc lo hi lo2 with
 | some n => some n
 | none => zeb lo hi hi2
theorem zkZ {lo hi : Option Int} {h : Int} (ap : apart (mLo lo (some (h + 1))) hi = true) : zeb lo hi (some h) = none := if_pos ap
theorem zk0 {lo hi : Option Int} {h : Int} (ap : ¬ apart (mLo lo (some (h + 1))) hi = true) : zeb lo hi (some h) = some (zdx (mLo lo (some (h + 1))) hi) := if_neg ap
theorem zl5 {lo hi : Option Int} {l : Int} (ap : apart lo (mHi hi (some (l - 1))) = true) : zcc lo hi (some l) = none := if_pos ap
theorem zl6 {lo hi : Option Int} {l : Int} (ap : ¬ apart lo (mHi hi (some (l - 1))) = true) : zcc lo hi (some l) = some (zdx lo (mHi hi (some (l - 1)))) := if_neg ap
theorem zcO {lo hi lo2 hi2 : Option Int} (h : zcc lo hi lo2 = none) : zay lo hi lo2 hi2 = zeb lo hi hi2 := by unfold zay; rw [h]
theorem ziF {lo hi lo2 hi2 : Option Int} {n : Int} (h : zcc lo hi lo2 = some n) : zay lo hi lo2 hi2 = some n := by unfold zay; rw [h]
theorem zjJ (o : Option Int) : mLo o none = o := by cases o <;> rfl
theorem zhi (o : Option Int) : mHi o none = o := by cases o <;> rfl
def zf5 : Sp := fun vs H Q _ => ∃ (v : V) (lo hi : Option Int), vs = [v] ∧ SpanAt H v lo hi ∧ Q (.int (zdx lo hi)) H
def zgb : Sp := fun vs H Q _ => ∃ (v w : V) (lo hi lo2 hi2 : Option Int), vs = [v, w] ∧ SpanAt H v lo hi ∧ SpanAt H w lo2 hi2 ∧ ∀ H', Same H H' → Q (eV (zay lo hi lo2 hi2)) H'
abbrev PP := Str × Int
def PieceAt (H : Hp) (a : Addr) (w : List PP) : Prop := ∃ ps : List (Addr × PP), ps.map (·.2) = w ∧ H a = some (.tup (ps.map fun p => V.ref p.1)) ∧ ∀ p ∈ ps, H p.1 = some (.tup [.str p.2.1, .int p.2.2])
def zcX (other : List WP) (p : WP) : Int := match zay p.2.1 p.2.2 ((zaH other p.1).getD (none, none)).1 ((zaH other p.1).getD (none, none)).2 with
 | some n => n
 | none => zdx p.2.1 p.2.2
theorem zd0 {other : List WP} {p : WP} {sp : Option Int × Option Int} {n : Int} (h : (zaH other p.1).getD (none, none) = sp) (e : zay p.2.1 p.2.2 sp.1 sp.2 = some n) : zcX other p = n := by unfold zcX; rw [h, e]
theorem zd1 {other : List WP} {p : WP} {sp : Option Int × Option Int} (h : (zaH other p.1).getD (none, none) = sp) (e : zay p.2.1 p.2.2 sp.1 sp.2 = none) : zcX other p = zdx p.2.1 p.2.2 := by unfold zcX; rw [h, e]
def zgt (one other : List WP) : List PP := one.map fun p => (p.1, zcX other p)
def zdL : Sp := fun vs H Q _ => ∃ (a b : Addr) (w w' : List WP), vs = [.ref a, .ref b] ∧ WishAt H a w ∧ WishAt H b w' ∧ WOk w ∧ WOk w' ∧ (zci w' w = true → ∀ H', Same H H' → Q .non H') ∧
 (zci w' w = false → ∀ r H', Same H H' → PieceAt H' r (zgt w w') → Q (.ref r) H')
theorem zlU {K : PySem.W.Frag} {a p : Addr} {xs : List V} {g : TG} {tc : TT} {tk tv : TE} {σ : St} {H : Hp} {Q : VK} {js : Cap} (Pv : Nat → St → List (Key × V) → Hp → Prop) (h0 : Pv 0 (inn js σ) [] (upd H p (.dK [])))
 (hl : ∀ i σ kvs H, i ≤ xs.length → Pv i σ kvs H → SqT K H a xs ∧ H p = some (.dK kvs) ∧ kvs.length < sizeLine)
 (hs : ∀ (i : Nat) x σ kvs H (N : St → List (Key × V) → Hp → Prop), xs[i]? = some x → Pv i σ kvs H → (∀ σ' kvs' H', Pv (i + 1) σ' kvs' H' → N σ' kvs' H') → g x σ H fun σ2 H2 => tc σ2 H2 fun b H3 =>
  if b = true then tk σ2 H3 fun k H4 => tv σ2 H4 fun y H5 => ∃ ky, k = kV ky ∧ H5 p = some (.dK kvs) ∧ N σ2 (putK kvs ky y) (upd H5 p (.dK (putK kvs ky y))) else N σ2 kvs H3)
 (hd : ∀ σ kvs H, Pv xs.length σ kvs H → Q (.ref p) H) : zjm (Itt K a) p js g tc tk tv σ H Q := by
 refine ⟨fun i m σ kvs H => m = xs.length - i ∧ i ≤ xs.length ∧ Pv i σ kvs H, ⟨xs.length, by simp, Nat.zero_le _, h0⟩, ?_⟩
 rintro i m σ kvs H ⟨rfl, hi, pv⟩
 obtain ⟨q0, q1, q2⟩ := hl i σ kvs H hi pv
 refine ⟨q1, ?_⟩
 by_cases lt : i < xs.length
 · refine .inr ⟨⟨xs, xs[i], q0, by simp [lt]⟩, q2, fun x H' y => ?_⟩
   obtain ⟨e, y⟩ := y
   subst e
   exact hs i x σ kvs H' (fun σ2 kvs2 H2 => ∃ m', m' < xs.length - i ∧ m' = xs.length - (i + 1) ∧ i + 1 ≤ xs.length ∧ Pv (i + 1) σ2 kvs2 H2) (y xs q0) pv fun σ' ys' H' p' => ⟨xs.length - (i + 1), by omega, rfl, lt, p'⟩
 · have e : i = xs.length := by omega
   subst e
   exact .inl ⟨⟨xs, q0, Nat.le_refl _⟩, hd σ kvs H pv⟩
theorem zh3 : ∀ {ts : List Str} {us : List Value}, Vals (ts.map V.str) us → ∃ l : List (Str × Tok), strValues l = us ∧ l.map (·.1) = ts
 | [], _, h => by cases h; exact ⟨[], rfl, rfl⟩
 | x :: ts, _, h => by
  rw [List.map_cons] at h
  cases h with
  | cons r h =>
   obtain ⟨t, rfl⟩ := r
   obtain ⟨l, h1, h2⟩ := zh3 h
   exact ⟨(x, t) :: l, by rw [← h1]; rfl, by rw [← h2]; rfl⟩
theorem zei : ∀ {ts : List Str} {us : List Value}, Vals (ts.map V.str) us → StrsAre us ts
 | [], _, h => by cases h; exact .nil
 | x :: ts, _, h => by
  rw [List.map_cons] at h
  cases h with
  | cons r h =>
   obtain ⟨t, rfl⟩ := r
   exact .cons _ _ (zei h)
theorem zdh : ∀ {us : List Value} {ts : List Str}, StrsAre us ts → Vals (ts.map V.str) us
 | _, _, .nil => .nil
 | _, _, .cons n t h => .cons ⟨t, rfl⟩ (zdh h)
section
variable {X : Cx}
def zmk (K : PySem.W.Frag) : V → List V → Hp → VK → Prop := fun x vs H Q => ∃ (y : Str) (a : Addr) (ts : List Str), x = .str y ∧ vs = [.ref a] ∧ SqL K H a (ts.map V.str) ∧ JoinOk y ts = true ∧ Q (.str (Txt.join y ts)) H
theorem zdc : MtM X "str.join" (zmk X.K) := by
 intro pins s σ H x vs v us Q I rx rv h
 obtain ⟨y, a, ts, rfl, rfl, hq, hok, q⟩ := h
 obtain ⟨t, rfl⟩ := rx
 obtain ⟨u, rfl, ru⟩ := rv.one
 cases ru
 obtain ⟨its, r, ht, hz⟩ := I.list hq
 obtain ⟨l, rfl, rfl⟩ := zh3 r
 unfold JoinOk at hok
 rw [Bool.not_eq_true'] at hok
 refine call_meets F.slot_str_join (typeIs_str _ _ _) F.entry_str_join (F.args_str_join_2 _ _) (meets_str_join_list y t a l hok) ⟨ht.isList, post_join l ⟨joinFit_length hok, fun t' k => ?_⟩⟩
 exact ⟨.str _, H, I.kept (t' := k) fun b o e => e, ⟨t', rfl⟩, q⟩
end
theorem zlw (t : SetTable) (n : Nat) : (t.orStandIn n).led = t.led := by unfold SetTable.orStandIn; split <;> rfl
theorem zjE (t : SetTable) (n : Nat) (h : t.plain = false) : (t.orStandIn n).plain = false := by
 unfold SetTable.orStandIn
 split
 · exact h
 · rfl
theorem zkN (t : SetTable) (es : Array (Int × Value)) (h : Int) (x : Value) : (layNew t es h x).2.1.led = t.led := by
 unfold layNew
 split
 · exact (zlw _ _).trans rfl
 · rfl
theorem ziP (t : SetTable) (es : Array (Int × Value)) (h : Int) (x : Value) : t.plain = false → (layNew t es h x).2.1.plain = false := by
 intro hp
 unfold layNew
 split
 · exact zjE _ _ hp
 · rfl
theorem ziQ {mask finger moves : Nat} {led plain : Bool} {hs : Array Int} {t : SetTable} {o : Array Nat} (h : SetTable.laid mask finger moves led plain hs = some (t, o)) : t.led = led ∧ t.plain = plain := by
 unfold SetTable.laid at h
 cases h1 : SetTable.layClean mask hs with
 | none => rw [h1] at h; cases h
 | some ow =>
  rw [h1] at h
  simp only [Option.bind_eq_bind, Option.bind_some, Option.pure_def, Option.some.injEq, Prod.mk.injEq] at h
  rw [← h.1]
  exact ⟨rfl, rfl⟩
theorem zij (t : SetTable) (es : Array (Int × Value)) (n : Nat) : (relayAll t es n).2.1.led = t.led := by
 unfold relayAll
 split
 · rename_i t' o h
   dsimp only
   split
   · exact (ziQ h).1
   · rfl
 · rfl
theorem zgp (t : SetTable) (es : Array (Int × Value)) (n : Nat) (hp : t.plain = false) : (relayAll t es n).2.1.plain = false := by
 unfold relayAll
 split
 · rename_i t' o h
   dsimp only
   split
   · rw [← hp]; exact (ziQ h).2
   · rfl
 · rfl
def byTx (w : World) : Bool := w.params.followText "set-order"
structure TxSet (prog : Program) (w : World) (h : Heap) (a : Addr) (ks : List Str) : Prop where
 at' : ∃ (es : Array (Int × Value)) (ep : Nat) (t : SetTable), h.get? a = some { cls := .type "set", dict := none, data := .set es ep t } ∧ ElemsOf (strKind prog w) es.toList ∧
  StrsAre (es.toList.map (·.2)) ks ∧ t.fits es.size = true ∧ t.led = !byTx w ∧ (es.size = 0 ∨ t.plain = false)
 nodup : ks.Nodup
 few : ks.length < scanBound
theorem zbC : ∀ {vs : List Value} {ks : List Str}, StrsAre vs ks → vs.length = ks.length
 | _, _, .nil => rfl
 | _, _, .cons _ _ h => by rw [List.length_cons, List.length_cons, zbC h]
theorem zdG : ∀ {vs us : List Value} {ks js : List Str}, StrsAre vs ks → StrsAre us js → StrsAre (vs ++ us) (ks ++ js)
 | _, _, _, _, .nil, h => h
 | _, _, _, _, .cons _ _ h', h => .cons _ _ (zdG h' h)
theorem zcg {vs us : List Value} (p : us.Perm vs) : ∀ {ks : List Str}, StrsAre vs ks → ∃ js, StrsAre us js ∧ js.Perm ks := by
 induction p with
 | nil => intro ks h; exact ⟨ks, h, .refl _⟩
 | cons x p ih =>
  intro ks h
  cases h with
  | cons y t h =>
   obtain ⟨js, h1, h2⟩ := ih h
   exact ⟨y :: js, .cons y t h1, h2.cons _⟩
 | swap x y l =>
  intro ks h
  cases h with
  | cons y t h =>
   cases h with
   | cons y2 t2 h => exact ⟨y2 :: y :: _, .cons _ _ (.cons _ _ h), .swap _ _ _⟩
 | trans p1 p2 ih1 ih2 =>
  intro ks h
  obtain ⟨js, h1, h2⟩ := ih2 h
  obtain ⟨is, h3, h4⟩ := ih1 h1
  exact ⟨is, h3, h4.trans h2⟩
theorem zcH : ∀ {vs : List Value} {ks : List Str}, StrsAre vs ks → ∀ k, k ∈ ks ↔ ∃ t, Value.str k t ∈ vs
 | _, _, .nil, k => by simp
 | _, _, .cons y t h, k => by
  rw [List.mem_cons, zcH h k]
  constructor
  · rintro (rfl | ⟨u, hu⟩)
    · exact ⟨t, .head _⟩
    · exact ⟨u, .tail _ hu⟩
  · rintro ⟨u, hu⟩
    cases hu with
    | head => exact .inl rfl
    | tail _ hu => exact .inr ⟨u, hu⟩
theorem zfU {prog : Program} {w : World} (k : Str) (t : Tok) : (strKind prog w).is k (.str k t) = true := by
 show Value.isStrOf k (.str k t) = true
 simp [Value.isStrOf]
theorem zim (h : Heap) (a : Addr) (es es' : Array (Int × Value)) (ep : Nat) (t t' : SetTable) (ho : h.get? a = some { cls := .type "set", dict := none, data := .set es ep t }) :
 (h.update a (Obj.putSet es' t')).get? a = some { cls := .type "set", dict := none, data := .set es' (ep + 1) t' } := by
 have := Heap.get?_update_self (Obj.putSet es' t') ho (by rw [putSet_of es' t' (o := { cls := .type "set", dict := none, data := .set es ep t }) rfl]; rfl)
 rw [putSet_of es' t' (o := { cls := .type "set", dict := none, data := .set es ep t }) rfl] at this
 exact this
section
variable {prog : Program} {w : World} {A : Around} {E : Value → Shared → Prop} {s : Shared}
theorem zjq {a : Addr} {ks : List Str} {k : Str} {tk : Tok} {Q : Bool → Shared → Prop} (hS : TxSet prog w s.heap a ks) (hroom : ks.length + 1 < scanBound)
 (h : ∀ h' ks', Heap.SameBut a s.heap h' → TxSet prog w h' a ks' → ks'.length ≤ ks.length + 1 → (∀ x, x ∈ ks' ↔ x ∈ ks ∨ x = k) → ∀ b, Q b { s with heap := h' }) :
 wpAny (model prog w) A (setAddHashed a (.str k tk) ((strKind prog w).hash k)) Q E s := by
 obtain ⟨⟨es, ep, t, ho, hel, hks, hf, hled, hpl⟩, hnd, hfew⟩ := hS
 have hsz : es.size = ks.length := by rw [← zbC hks, List.length_map, Array.length_toList]
 have hb : es.size < scanBound := by rw [hsz]; exact hfew
 have hkey : (strKind prog w).is k (.str k tk) = true := zfU k tk
 unfold setAddHashed setAddHashedIn
 refine wpAny_holding (wpAny_bind (wpAny_setState_of ho rfl hf ?_))
 dsimp only
 rw [byScan_of (knd := strKind prog w) rfl hb hel]
 simp only [↓reduceIte]
 unfold setAddByScan
 refine wpAny_bind ?_
 refine wpAny_bind (wpAny_rule ?_)
 refine wpAny_bind (wpAny_setScan_of (knd := strKind prog w) hkey ho rfl hf hel ?_)
 have isk : ∀ e ∈ es.toList, (strKind prog w).is k e.2 = true → k ∈ ks := fun e he q => by
  obtain ⟨t', q'⟩ := Value.isStrOf_shape q
  exact (zcH hks k).mpr ⟨t', by rw [← q']; exact List.mem_map_of_mem he⟩
 cases hr : List.findIdx? (fun e => (strKind prog w).is k e.2) es.toList with
 | some j =>
  dsimp only
  obtain ⟨hj, hpj, _⟩ := List.findIdx?_eq_some_iff_getElem.mp hr
  have hk : k ∈ ks := isk _ (List.getElem_mem hj) hpj
  refine wpAny_pure (wpAny_pure ?_)
  exact h s.heap ks (Heap.SameBut.refl a s.heap) ⟨⟨es, ep, t, ho, hel, hks, hf, hled, hpl⟩, hnd, hfew⟩ (Nat.le_succ _) (fun x => ⟨.inl, fun q => q.elim id fun e => e ▸ hk⟩) _
 | none =>
  dsimp only
  have hk : k ∉ ks := fun hm => by
   obtain ⟨t', ht⟩ := (zcH hks k).mp hm
   obtain ⟨e, he, q⟩ := List.mem_map.mp ht
   have := List.findIdx?_eq_none_iff.mp hr e he
   rw [q, zfU] at this
   cases this
  have hgw : ∀ (b : Bool) {s₁ : Shared} {Q' : Unit → Shared → Prop}, Q' () s₁ → wpAny (model prog w) A (match b with | true => rule "set.scan.the-table-gave-way" | false => pure ()) Q' E s₁ :=
   fun b s₁ Q' hq => by cases b <;> first | exact wpAny_pure hq | exact wpAny_rule hq
  have hperm := layNew_perm t es ((strKind prog w).hash k) (.str k tk)
  have hfits := layNew_fits t es ((strKind prog w).hash k) (.str k tk)
  have hl1 := zkN t es ((strKind prog w).hash k) (.str k tk)
  have hp1 := ziP t es ((strKind prog w).hash k) (.str k tk)
  generalize hL : layNew t es ((strKind prog w).hash k) (.str k tk) = L at hperm hfits hl1 hp1 ⊢
  obtain ⟨es1, t1, wasDummy, gave⟩ := L
  dsimp only at hperm hfits hl1 hp1 ⊢
  rw [Array.toList_push] at hperm
  have hel1 : ElemsOf (strKind prog w) es1.toList := (hel.push hkey rfl).perm hperm
  have h0 : StrsAre ((es.toList ++ [((strKind prog w).hash k, Value.str k tk)]).map (·.2)) (ks ++ [k]) := by
   rw [List.map_append]
   exact zdG hks (.cons k tk .nil)
  obtain ⟨k1, hk1, hkp1⟩ := zcg (hperm.map (·.2)) h0
  have hsz1 : es1.size = ks.length + 1 := by rw [← Array.length_toList, hperm.length_eq, List.length_append, Array.length_toList, hsz]; rfl
  have nd0 : (ks ++ [k]).Nodup := by
   rw [List.nodup_append]
   exact ⟨hnd, by simp, fun x hx y hy => by rw [List.mem_singleton] at hy; subst hy; exact fun e => hk (e ▸ hx)⟩
  have fin : ∀ (h' : Heap) (es2 : Array (Int × Value)) (ep2 : Nat) (t2 : SetTable), Heap.SameBut a s.heap h' → h'.get? a = some { cls := .type "set", dict := none, data := .set es2 ep2 t2 } → es2.toList.Perm es1.toList → t2.fits es2.size = true →
   t2.led = t.led → t2.plain = false → ∀ b, Q b { s with heap := h' } := fun h' es2 ep2 t2 sb ho2 p2 f2 l2 pl2 b => by
   obtain ⟨k2, hk2, hkp2⟩ := zcg (p2.map (·.2)) hk1
   have hp : k2.Perm (ks ++ [k]) := hkp2.trans hkp1
   have hlen : k2.length = ks.length + 1 := by rw [hp.length_eq, List.length_append]; rfl
   refine h h' k2 sb ⟨⟨es2, ep2, t2, ho2, hel1.perm p2, hk2, f2, l2.trans hled, .inr pl2⟩, hp.nodup_iff.mpr nd0, by omega⟩ (by omega) (fun x => ?_) b
   rw [hp.mem_iff, List.mem_append, List.mem_singleton]
  refine wpAny_bind (hgw _ ?_)
  have tail : ∀ (t2 : SetTable), t2.fits es1.size = true → t2.led = t.led → t2.plain = false → ∀ {R : Option Bool → Shared → Prop}, (∀ h', (∀ b, Q b { s with heap := h' }) → R (some true) { s with heap := h' }) →
   wpAny (model prog w) A (do
    storeSet a es1 t2
    if (!wasDummy && t2.tooFull) = true then do
        (match (relayAll t2 es1 (SetTable.grown es1.size)).2.2 with | true => rule "set.scan.the-table-gave-way" | false => pure ())
        storeSet a (relayAll t2 es1 (SetTable.grown es1.size)).1 (relayAll t2 es1 (SetTable.grown es1.size)).2.1
        pure (some true)
     else pure (some true)) R E s := by
   intro t2 f2 l2 pl2 R hR
   refine wpAny_bind (wpAny_storeSet_of ho rfl ?_ (fits_of_scanBound (by omega)))
   have ho1 := zim s.heap a es es1 ep t t2 ho
   have sb1 := Heap.SameBut.update s.heap a (Obj.putSet es1 t2)
   split
   · have hp := relayAll_perm t2 es1 (SetTable.grown es1.size)
     have hfr := relayAll_fits t2 es1 (SetTable.grown es1.size)
     have hl2 := zij t2 es1 (SetTable.grown es1.size)
     have hp2 := zgp t2 es1 (SetTable.grown es1.size) pl2
     generalize hRl : relayAll t2 es1 (SetTable.grown es1.size) = Rl at hp hfr hl2 hp2 ⊢
     obtain ⟨es2, t3, gave2⟩ := Rl
     dsimp only at hp hfr hl2 hp2 ⊢
     have hs2 : es2.size = es1.size := by rw [← Array.length_toList, hp.length_eq, Array.length_toList]
     refine wpAny_bind (hgw _ ?_)
     refine wpAny_bind (wpAny_storeSet_of ho1 rfl ?_ (fits_of_scanBound (by omega)))
     exact wpAny_pure (hR _ (fin _ es2 _ t3 (sb1.trans (Heap.SameBut.update _ a _)) (zim _ a es1 es2 (ep + 1) t2 t3 ho1) hp hfr (hl2.trans l2) hp2))
   · exact wpAny_pure (hR _ (fin _ es1 _ t2 sb1 ho1 (.refl _) f2 l2 pl2))
  split
  · refine wpAny_bind ?_
    rw [hashByValue_scannable 8 (x := .str k tk) rfl]
    refine wpAny_pure ?_
    exact tail { t1 with plain := false } (SetTable.fits_plain_off hfits) hl1 rfl fun h' q => wpAny_pure (q _)
  · rename_i hnp
    refine wpAny_bind (wpAny_pure ?_)
    simp only [↓reduceIte]
    exact tail t1 hfits hl1 (by simpa using hnp) fun h' q => wpAny_pure (q _)
end
theorem TxSet.kept {prog : Program} {w : World} {h h' : Heap} {a : Addr} {ks : List Str} (T : TxSet prog w h a ks) (k : ∀ o, h.get? a = some o → h'.get? a = some o) : TxSet prog w h' a ks := by
 obtain ⟨⟨es, ep, t, ho, r⟩, b, c⟩ := T
 exact ⟨⟨es, ep, t, k _ ho, r⟩, b, c⟩
theorem zh4 : ∀ {vs : List Value} {ts : List Str}, StrsAre vs ts → ∀ (i : Nat) (v : Value), vs[i]? = some v → ∃ x t, v = .str x t ∧ ts[i]? = some x
 | _, _, .nil, i, v, h => by simp at h
 | _, _, .cons y t hr, 0, v, h => by simp at h; exact ⟨y, t, h.symm, rfl⟩
 | _, _, .cons y t hr, i + 1, v, h => by
  rw [List.getElem?_cons_succ] at h
  obtain ⟨x, t', e, e2⟩ := zh4 hr i v h
  exact ⟨x, t', e, by rw [List.getElem?_cons_succ]; exact e2⟩
section
variable {prog : Program} {w : World} {A : Around} {R : Result → Shared → Prop} {I : Addr} {fp wr : List Addr} {G : Array GenState → Array GenState → Prop} {P : Nat → Value → Prop} {St : Nat → Shared → Prop}
theorem zh1 (ts : List Str) (W : WalksS prog w A.in1 I fp wr G ts.length P St) (S : Addr) (hSf : S ∉ fp)
 (hval : ∀ i v, P i v → ∃ x t, v = .str x t ∧ ts[i]? = some x) (hb : ts.length + 1 < scanBound) :
 ∀ (k i : Nat) (s : Shared) (ks : List Str), ts.length - i = k → i ≤ ts.length → St i s → TxSet prog w s.heap S ks → ks.length ≤ i → (∀ x, x ∈ ks ↔ x ∈ ts.take i) →
  (∀ s' ks', Moved (S :: wr) G s s' → TxSet prog w s'.heap S ks' → ks'.length ≤ ts.length → (∀ x, x ∈ ks' ↔ x ∈ ts) → R (.ok (.ret .none)) s') →
  codeAny (model prog w) A (.builtin "set.update.loop" ⟨[.ref S, .ref I], []⟩) R s := by
 have hSw : S ∉ wr := fun h => hSf (W.sub _ h)
 have hsub : ∀ b ∈ wr, b ∈ S :: wr := fun b hb => List.mem_cons_of_mem _ hb
 intro k
 induction k with
 | zero =>
  intro i s ks hk hi hst hS hl hm0 hR
  have hin : i = ts.length := by omega
  subst hin
  refine codeAny_builtin PyProof.Rows.F.entry_set_update_loop ?_
  rw [Around.under_plainId PyProof.Rows.F.plain_set_update_loop _]
  show wpAny _ A.in1 (pyNext (.ref I) >>= _) _ _ s
  refine wpAny_bind (W.done s _ _ hst fun s' hm => ?_)
  show wpAny _ A.in1 (ret Value.none) _ _ s'
  exact wpAny_pure (hR s' ks (hm.mono hsub) (hS.kept fun o e => hm.heap S _ hSw e) hl (fun x => by rw [hm0, List.take_length]))
 | succ k ih =>
  intro i s ks hk hi hst hS hl hm0 hR
  have hlt : i < ts.length := by omega
  refine codeAny_builtin PyProof.Rows.F.entry_set_update_loop ?_
  rw [Around.under_plainId PyProof.Rows.F.plain_set_update_loop _]
  show wpAny _ A.in1 (pyNext (.ref I) >>= _) _ _ s
  refine wpAny_bind (W.item i s _ _ hlt hst fun v s' hP hst' hm => ?_)
  obtain ⟨x, t, rfl, hx⟩ := hval i v hP
  have hS' : TxSet prog w s'.heap S ks := hS.kept fun o e => hm.heap S _ hSw e
  show wpAny _ A.in1 (holding [Value.str x t] (setAdd S (.str x t)) >>= _) _ _ s'
  refine wpAny_bind (wpAny_holding ?_)
  unfold setAdd
  refine wpAny_holding ?_
  refine wpAny_bind ((strKind prog w).pyHash (k := x) (zfU x t) ?_)
  refine zjq (s := { s' with toks := s'.toks + 1 }) hS' (by omega) fun h' ks' hsb hS2 hl2 hm2 b => ?_
  refine wpAny_pure ⟨plainId_quiet PyProof.Rows.F.plain_set_update_loop _, ih (i + 1) _ ks' (by omega) hlt (W.frame _ s' _ _ hst' (Nat.le_succ _) fun b hb o e => ?_) hS2 (by omega) (fun y => ?_) fun s'' k2 hm'' hS'' => ?_⟩
  · rw [hsb.2 b (fun h : b = S => hSf (by rw [← h]; exact hb))]; exact e
  · rw [hm2, hm0, List.take_succ, hx]
    simp
  · refine hR s'' k2 (Moved.trans W.gtrans ((hm.mono hsub).then_heap (Nat.le_succ _) fun b o hb e => ?_) hm'') hS''
    rw [hsb.2 b (fun h : b = S => hb (by rw [h]; exact List.mem_cons_self))]; exact e
end
section
variable {prog : Program} {w : World} {A : Around} {E : Value → Shared → Prop} {s : Shared}
theorem zgX (a : Value) {Q₁ : Value → Shared → Prop}
 (h : Q₁ (.ref s.heap.objs.size) { s with heap := s.heap.push { cls := .type "set", dict := none, data := .set #[] 0 (.fresh 0 0 (!byTx w)) } }) :
 codeAny (model prog w) A (.call (.builtin "set.__new__") ⟨[.type "set", a], []⟩) (wants Q₁ E) s := by
 refine codeAny_of_tree ?_
 show wpAny _ A.in1 (do checkBuiltinCall "set.__new__" ⟨[.type "set", a], []⟩; again (.builtin "set.__new__" ⟨[.type "set", a], []⟩)) _ _ s
 refine wpAny_bind (wpAny_of_eq (PySem.F.newCall_set_1 a) (wpAny_pure ⟨plainId_quiet PySem.F.plain_set_new _, codeAny_builtin PySem.F.entry_set_new ?_⟩))
 rw [Around.under_plainId PySem.F.plain_set_new _]
 unfold Builtin.«set.__new__» Builtin.Frozenset.newClass
 have hsub := sub_set_self
 obtain ⟨hp, g, d, tk, os⟩ := s
 dsimp only
 wp_walk
 refine wpAny_askSetting (wpAny_pure ?_)
 dsimp only
 simp only [newObj]
 refine wpAny_bind (wpAny_alloc (wpAny_pure ?_))
 exact wpAny_pure h
theorem zhx {h : Heap} {a : Addr} (e : h.get? a = some { cls := .type "set", dict := none, data := .set #[] 0 (.fresh 0 0 (!byTx w)) }) : TxSet prog w h a [] :=
 ⟨⟨#[], 0, _, e, fun e he => by simp at he, .nil, rfl, rfl, .inl rfl⟩, List.nodup_nil, by decide⟩
end
section
variable {prog : Program} {w : World} {A : Around} {E : Value → Shared → Prop} {s : Shared}
set_option maxHeartbeats 3200000 in
theorem zfa {l : Addr} {items : Array Value} {ts : List Str} {Q : Value → Shared → Prop}
 (hh : A.handled = none) (hl : s.heap.IsList l items) (hi : StrsAre items.toList ts) (hb : ts.length + 1 < scanBound)
 (h : ∀ (h' : Heap) (tk : Nat) (ks : List Str), TxSet prog w h' s.heap.objs.size ks → ks.length ≤ ts.length → (∀ x, x ∈ ks ↔ x ∈ ts) →
  (∀ b o, b < s.heap.objs.size → s.heap.get? b = some o → h'.get? b = some o) → Q (.ref s.heap.objs.size) { s with heap := h', toks := tk }) :
 wpAny (model prog w) A (call (.type "set") [.ref l]) Q E s := by
 have hsz : items.size = ts.length := by rw [← Array.length_toList]; exact zbC hi
 obtain ⟨c, tl, hmro⟩ := PySem.F.called_set.mro
 have hmade := PySem.F.called_set.made
 have hsub := PySem.F.called_set.sub
 refine wpAny_call (codeAny_of_tree ?_)
 show wpAny _ _ (callAny (.type "set") _) _ _ _
 refine wpAny_pure ⟨Code.quiet_builtin _ (by decide +kernel), codeAny_builtin PySem.F.entry_type_call ?_⟩
 rw [Around.under_plain (weight_type_call_type "set" [.ref l] []) rfl]
 have h1 := PySem.F.called_set.notType
 have h2 := PySem.F.called_set.canCreate
 have hct := PySem.F.typeCall_set_1 (.ref l)
 repeat (any_goals (first | assumption | wp_step))
 refine codeAny_mono (zgX (.ref l) (E := E) (Q₁ := fun obj s₁ => obj = .ref s.heap.objs.size ∧ s₁ = { s with heap := s.heap.push { cls := .type "set", dict := none, data := .set #[] 0 (.fresh 0 0 (!byTx w)) } }) ⟨rfl, rfl⟩) fun r s₁ hr => ?_
 cases r with
 | error e => exact hr
 | ok fl =>
  cases fl with
  | ret obj =>
   obtain ⟨rfl, rfl⟩ := hr
   have hS : (s.heap.push { cls := .type "set", dict := none, data := .set #[] 0 (.fresh 0 0 (!byTx w)) }).get? s.heap.objs.size = some { cls := .type "set", dict := none, data := .set #[] 0 (.fresh 0 0 (!byTx w)) } := Heap.get?_push_size _ rfl
   have hT : Shared.TypeIs { s with heap := s.heap.push { cls := .type "set", dict := none, data := .set #[] 0 (.fresh 0 0 (!byTx w)) } } (.ref s.heap.objs.size) "set" := ⟨_, hS, rfl⟩
   have hli := PySem.F.called_set.init.lookup
   have hbi := PySem.F.called_set.init.bind (.ref s.heap.objs.size)
   repeat (any_goals (first | assumption | wp_step))
   refine codeAny_mono (codeAny_call_builtin (R := wants (fun r s₂ => r = .none ∧ ∃ h' tk ks, s₂ = { s with heap := h', toks := tk } ∧ TxSet prog w h' s.heap.objs.size ks ∧ ks.length ≤ ts.length ∧ (∀ x, x ∈ ks ↔ x ∈ ts) ∧
    (∀ b o, b < s.heap.objs.size → s.heap.get? b = some o → h'.get? b = some o)) E) PySem.F.called_set.init.plain PySem.F.entry_set_init (check_set_init_1 hT ?_)) fun r₂ s₂ hr₂ => ?_
   · obtain ⟨ol, hol, hcl, nl, hdl⟩ := hl
     obtain ⟨ocls, odict, odata, oslots⟩ := ol
     simp only at hcl hdl
     subst hcl; subst hdl
     have hol' : (s.heap.push { cls := .type "set", dict := none, data := .set #[] 0 (.fresh 0 0 (!byTx w)) }).get? l = some { cls := .type "list", dict := odict, data := .seq items nl, slots := oslots } := Heap.get?_push_of_some _ hol
     have hsls := PySem.F.sub_list_set
     have hslf := PySem.F.sub_list_frozenset
     have hne : (Value.type "list" == Value.type "dict") = false := by decide
     have hl1 : (s.heap.push { cls := .type "set", dict := none, data := .set #[] 0 (.fresh 0 0 (!byTx w)) }).IsList l items := ⟨_, hol', rfl, nl, rfl⟩
     unfold Builtin.«set.__init__» noKeywords Builtin.Frozenset.updateFrom
     generalize hPI : pyIter = PI
     wp_walk
     subst hPI
     refine wpAny_pyIter_list hl1 ?_
     refine wpAny_bind (wpAny_runValue ?_)
     have hlS : l < s.heap.objs.size := Heap.lt_size hol
     have hh3 : A.in1.in1.in1.handled = none := by simp [hh]
     have hneI : l ≠ (s.heap.push { cls := .type "set", dict := none, data := .set #[] 0 (.fresh 0 0 (!byTx w)) }).objs.size := by
      rw [Heap.size_push]; exact Nat.ne_of_lt (Nat.lt_succ_of_lt hlS)
     have hSf : s.heap.objs.size ∉ [(s.heap.push { cls := .type "set", dict := none, data := .set #[] 0 (.fresh 0 0 (!byTx w)) }).objs.size, l] := by
      rw [Heap.size_push]; simp only [List.mem_cons, List.mem_singleton, List.not_mem_nil, or_false, not_or]
      exact ⟨Nat.ne_of_lt (Nat.lt_succ_self _), Nat.ne_of_gt hlS⟩
     have hval : ∀ (i : Nat) (v : Value), items[i]? = some v → ∃ x t, v = .str x t ∧ ts[i]? = some x := fun i v hv =>
      zh4 hi i v (by rw [Array.getElem?_toList]; exact hv)
     have W := (Walks.list (prog := prog) (w := w) hh3 (s.heap.push { cls := .type "set", dict := none, data := .set #[] 0 (.fresh 0 0 (!byTx w)) }).objs.size l hneI items).toS
     rw [hsz] at W
     refine zh1 ts W s.heap.objs.size hSf hval hb (ts.length - 0) 0 _ [] (by omega) (Nat.zero_le _)
      ⟨⟨_, Heap.get?_push_size _ rfl, rfl, rfl⟩, (hl1.push _)⟩ (zhx (Heap.get?_push_of_some _ hS)) (Nat.le_refl _) (fun x => by simp) ?hR
     case hR =>
      intro s' ks hm hS' hlk hmk
      obtain ⟨h', g', d', tk', os'⟩ := s'
      have eg : g' = s.gens := hm.gens
      have ed : d' = s.drawn := hm.drawn
      have eo : os' = s.os := hm.os
      subst eg; subst ed; subst eo
      show wpAny _ _ _ _ _ _
      refine wpAny_pure ?_
      show wpAny _ _ (ret Value.none) _ _ _
      refine wpAny_pure ⟨rfl, h', tk', ks, rfl, hS', hlk, hmk, fun b o hb e => ?_⟩
      have hb1 : b ≠ s.heap.objs.size := Nat.ne_of_lt hb
      have hb2 : b ≠ (s.heap.push { cls := .type "set", dict := none, data := .set #[] 0 (.fresh 0 0 (!byTx w)) }).objs.size := by
       rw [Heap.size_push]; exact Nat.ne_of_lt (Nat.lt_succ_of_lt hb)
      exact hm.heap b o (by simp only [List.mem_cons, List.mem_singleton, List.not_mem_nil, or_false, not_or]; exact ⟨hb1, hb2⟩) (Heap.get?_push_of_some _ (Heap.get?_push_of_some _ e))
   · cases r₂ with
     | error e => exact hr₂
     | ok fl₂ =>
      cases fl₂ with
      | ret r =>
       obtain ⟨rfl, h', tk, ks, rfl, hS', hlk, hmk, hk'⟩ := hr₂
       repeat (any_goals (first | assumption | wp_step))
       exact h _ _ ks hS' hlk hmk hk'
      | _ => exact hr₂.elim
  | _ => exact hr.elim
end
theorem zhq {M : Model} {A : Around} {E : Value → Shared → Prop} {s : Shared} {src : Source} {n : Nat} {Q : Nat → Shared → Prop} (hn : 0 < n) (h : ∀ i d', i < n → Q i { s with drawn := d' }) :
 wpAny M A (choose src n) Q E s := fun Γ p hΓ => by
 show Sem.wp M Γ (.choose src n .pure) _ _ p s
 rw [Sem.wp_choose]
 exact ⟨by omega, h _ _ (Nat.mod_lt _ hn)⟩
theorem zdd {α : Type} : ∀ {l : List α} {i : Nat} {x : α}, l[i]? = some x → (x :: l.eraseIdx i).Perm l
 | [], i, x, h => by simp at h
 | y :: l, 0, x, h => by simp at h; subst h; exact .refl _
 | y :: l, i + 1, x, h => by
  rw [List.getElem?_cons_succ] at h
  rw [List.eraseIdx_cons_succ]
  exact (List.Perm.swap _ _ _).trans ((zdd h).cons _)
theorem zg3 {M : Model} {A : Around} {E : Value → Shared → Prop} {α : Type} : ∀ (n : Nat) (xs : List α) (s : Shared) {Q : List α → Shared → Prop}, xs.length ≤ n → (∀ ys d', ys.Perm xs → Q ys { s with drawn := d' }) →
 wpAny M A (drawOrder n xs) Q E s
 | 0, xs, s, Q, hn, h => by
  have : xs = [] := List.length_eq_zero_iff.mp (Nat.le_zero.mp hn)
  subst this
  exact wpAny_pure (h [] s.drawn (.refl _))
 | n + 1, [], s, Q, hn, h => wpAny_pure (h [] s.drawn (.refl _))
 | n + 1, x :: xs, s, Q, hn, h => by
  show wpAny M A (choose .order (x :: xs).length >>= _) Q E s
  refine wpAny_bind (zhq (by simp) fun i d1 hi => ?_)
  have hx : (x :: xs)[i]? = some (x :: xs)[i] := List.getElem?_eq_getElem hi
  rw [hx]
  show wpAny M A (drawOrder n ((x :: xs).eraseIdx i) >>= _) Q E _
  have hl : ((x :: xs).eraseIdx i).length ≤ n := by
   rw [List.length_eraseIdx, if_pos hi]
   simp at hn ⊢
   omega
  refine wpAny_bind (zg3 n _ _ hl fun ys d2 hp => wpAny_pure ?_)
  exact h _ d2 ((hp.cons _).trans (zdd hx))
theorem zis {α : Type} (next : Nat → Nat) : ∀ (n k : Nat) (left : List α) (out : Array α), left.length ≤ n → ((pickOrder.go next n k left out).toList).Perm (out.toList ++ left)
 | 0, k, left, out, h => by
  have : left = [] := List.length_eq_zero_iff.mp (Nat.le_zero.mp h)
  subst this
  simp [pickOrder.go]
 | n + 1, k, left, out, h => by
  unfold pickOrder.go
  split
  · rename_i x hx
    have hlt : next k % left.length < left.length := (List.getElem?_eq_some_iff.mp hx).1
    refine (zis next n (k + 1) _ _ ?_).trans ?_
    · rw [List.length_eraseIdx, if_pos hlt]; omega
    · rw [Array.toList_push, List.append_assoc]
      exact List.Perm.append_left _ (zdd hx)
  · rename_i hx
    cases left with
    | nil => simp
    | cons y l =>
     have : next k % (y :: l).length < (y :: l).length := Nat.mod_lt _ (by simp)
     rw [List.getElem?_eq_getElem this] at hx
     cases hx
theorem zfs {α : Type} (next : Nat → Nat) (xs : Array α) : ((pickOrder next xs).toList).Perm xs.toList := by
 have := zis next xs.size 0 xs.toList #[] (by simp)
 simpa [pickOrder] using this
theorem zgf (a : Addr) : setDrawn a = (do
 let (es, _, t) ← setState a
 let byText ← setsByText
 return !byText && (!t.plain && decide (es.size > 1))) := rfl
theorem zcq (a : Addr) (slot given epochThen : Nat) : setNext a slot given epochThen = (do
 let (es, epoch, t) ← setState a
 if ← setsByText then
  if epoch != epochThen then unsupported "set_iterator.__next__:elements-changed"
  return ((← setWalk a)[given]?).map fun e => (e.2, slot)
 if (!t.plain && decide (es.size > 1)) then unsupported "set_iterator.__next__:the-table-is-plain-no-more"
 (do if !t.led && !es.isEmpty then unsupported "set:maker-not-led" : Sem Unit)
 let i := SetTable.below t.place slot
 return match es[i]?, t.place[i]? with
  | some (_, x), some j => some (x, j + 1)
  | _, _ => none) := rfl
namespace FS
theorem entry_set_iter : entryFor table "set.__iter__" = some Builtin.«frozenset.__iter__» := entryFor_alias (id' := "frozenset.__iter__") (by kernel_rfl) rfl (by decide +kernel) (by kernel_rfl)
theorem slot_si_next : Slot "set_iterator" "__next__" "set_iterator.__next__" :=
 .of (owner := "set_iterator") (n := "__next__") (by rw [typeLookup_type, builtinLookup_eq_fast]; kernel_rfl) (by decide +kernel) (by decide +kernel) (by decide +kernel)
  (by first | exact .inl (by decide +kernel) | exact .inr (by decide +kernel)) (by rw [isSubtype_type]; kernel_rfl)
theorem entry_si_next : entryFor table "set_iterator.__next__" = some Builtin.«set_iterator.__next__» := entryFor_of_tree (by kernel_rfl)
theorem args_si_next (a : Value) : argsOk "set_iterator.__next__" ⟨[a], []⟩ := by unfold argsOk; kernel_rfl
theorem slot_si_iter : Slot "set_iterator" "__iter__" "set_iterator.__iter__" :=
 .of (owner := "set_iterator") (n := "__iter__") (by rw [typeLookup_type, builtinLookup_eq_fast]; kernel_rfl) (by decide +kernel) (by decide +kernel) (by decide +kernel)
  (by first | exact .inl (by decide +kernel) | exact .inr (by decide +kernel)) (by rw [isSubtype_type]; kernel_rfl)
theorem entry_si_iter : entryFor table "set_iterator.__iter__" = some Builtin.«dict_keyiterator.__iter__» :=
 entryFor_alias (id' := "dict_keyiterator.__iter__") (by kernel_rfl) rfl (by decide +kernel) (by kernel_rfl)
theorem args_si_iter (a : Value) : argsOk "set_iterator.__iter__" ⟨[a], []⟩ := by unfold argsOk; kernel_rfl
end FS
abbrev zco (h : Heap) (I a : Addr) (first : Value) (i n ep : Nat) : Prop :=
 h.get? I = some { cls := .type "set_iterator", dict := none, data := .fields #[first, .int i 0, .ref a, .int n 0, .int ep 0] }
inductive SOrd (w : World) (a : Addr) (es : Array (Int × Value)) (ep : Nat) (t : SetTable) : (Nat → Value) → List Value → List (Addr × Obj) → Prop
 | drawn (T : Addr) (places : List Nat) (h0 : byTx w = false) (hp : places.Perm (List.range es.size)) (h2 : 1 < es.size) :
  SOrd w a es ep t (fun _ => .ref T) (places.filterMap fun p => (es[p]?).map (·.2)) [(T, { cls := .type "tuple", data := .seq (places.map fun (i : Nat) => rawInt i).toArray })]
 | text (h0 : byTx w = true) : SOrd w a es ep t (fun _ => rawInt 0) ((pickOrder (w.params.setOrder a ep) es).toList.map (·.2)) []
 | few (h0 : byTx w = false) (h2 : es.size ≤ 1) : SOrd w a es ep t (fun i => rawInt (if i = 0 then 0 else t.place.getD 0 0 + 1)) (es.toList.map (·.2)) []
theorem zjO (es : Array (Int × Value)) : ((List.range es.size).filterMap fun p => (es[p]?).map (·.2)) = es.toList.map (·.2) := by
 have := filterMap_getElem?_range es
 rw [← this, List.map_filterMap]
theorem SOrd.perm {w : World} {a : Addr} {es : Array (Int × Value)} {ep : Nat} {t : SetTable} {f : Nat → Value} {vs : List Value} {ob : List (Addr × Obj)} (h : SOrd w a es ep t f vs ob) : vs.Perm (es.toList.map (·.2)) := by
 cases h with
 | drawn T places h0 hp h2 => rw [← zjO]; exact hp.filterMap _
 | text h0 => exact (zfs _ _).map _
 | few h0 h2 => exact .refl _
section
variable {prog : Program} {w : World} {A : Around} {E : Value → Shared → Prop} {s : Shared}
theorem zbe {Q : Bool → Shared → Prop} (h : Q (byTx w) s) : wpAny (model prog w) A setsByText Q E s := by
 unfold setsByText
 exact wpAny_bind (wpAny_askSetting (wpAny_pure h))
theorem ziY {a : Addr} {es : Array (Int × Value)} {ep : Nat} {t : SetTable} {Q : Value → Shared → Prop} (ho : s.heap.get? a = some { cls := .type "set", dict := none, data := .set es ep t })
 (hf : t.fits es.size = true) (hp : es.size = 0 ∨ t.plain = false) (hz : es.size ≤ sizeLine)
 (hQ : ∀ h' d' I f vs ob, SOrd w a es ep t f vs ob → s.heap.objs.size ≤ I → zco h' I a (f 0) 0 es.size ep → (∀ p ∈ ob, h'.get? p.1 = some p.2 ∧ s.heap.objs.size ≤ p.1 ∧ p.1 ≠ I) → (∀ b o, s.heap.get? b = some o → h'.get? b = some o) →
  I < h'.objs.size → (∀ p ∈ ob, p.1 < h'.objs.size) → Q (.ref I) { s with heap := h', drawn := d' }) :
 wpAny (model prog w) A (pyIter (.ref a)) Q E s := by
 have hT : s.TypeIs (.ref a) "set" := ⟨_, ho, rfl⟩
 refine wpAny_pyIter_slot hT PySem.F.slot_set_iter (wpAny_call_entry PySem.F.slot_set_iter hT FS.entry_set_iter ?_ (PySem.F.args_set_iter_1 _))
 unfold Builtin.«frozenset.__iter__» Builtin.Frozenset.slot0 Builtin.Frozenset.sizeOf
 refine wpAny_bind (wpAny_bind (m := slotArgs _ _ _) (wpAny_pure (wpAny_pure ?_)))
 refine wpAny_bind (wpAny_bind (wpAny_setEntries_of ho rfl hf (wpAny_pure ?_)))
 dsimp only
 rw [zgf]
 refine wpAny_bind (wpAny_bind (wpAny_setState_of ho rfl hf (wpAny_bind (zbe (wpAny_pure ?_)))))
 by_cases hd : (!byTx w && (!t.plain && decide (es.size > 1))) = true
 · rw [if_pos hd]
   have hd' : byTx w = false ∧ 1 < es.size := by
    simp only [Bool.and_eq_true, Bool.not_eq_true', decide_eq_true_eq] at hd
    exact ⟨hd.1, hd.2.2⟩
   refine wpAny_bind (zg3 _ _ _ (by simp) fun ys d' hy => ?_)
   refine wpAny_bind (wpAny_newTuple ?_ (by rw [List.length_map, hy.length_eq, List.length_range]; exact hz))
   have ho2 : (s.heap.push { cls := .type "tuple", data := .seq (ys.map fun (i : Nat) => rawInt i).toArray }).get? a = some { cls := .type "set", dict := none, data := .set es ep t } := Heap.get?_push_of_some _ ho
   refine wpAny_bind (wpAny_setEpoch_of (s := { s with drawn := d', heap := s.heap.push { cls := .type "tuple", data := .seq (ys.map fun (i : Nat) => rawInt i).toArray } }) ho2 rfl hf ?_)
   refine wpAny_bind (wpAny_newObj_type (wpAny_pure ⟨_, rfl, "set_iterator", _, ⟨_, Heap.get?_push_size _ rfl, rfl⟩, FS.slot_si_next.lookup, ?_⟩))
   refine hQ _ d' _ _ _ _ (.drawn s.heap.objs.size ys hd'.1 hy hd'.2) ?_ (Heap.get?_push_size _ rfl) (fun p hp => ?_) (fun b o e => Heap.get?_push_of_some _ (Heap.get?_push_of_some _ e)) ?_ (fun p hp => ?_)
   · rw [Heap.size_push]; exact Nat.le_succ _
   · rw [List.mem_singleton] at hp
     subst hp
     exact ⟨Heap.get?_push_of_some _ (Heap.get?_push_size _ rfl), Nat.le_refl _, by rw [Heap.size_push]; exact Nat.ne_of_lt (Nat.lt_succ_self _)⟩
   · simp only [Heap.size_push]; omega
   · rw [List.mem_singleton] at hp
     subst hp
     show s.heap.objs.size < _
     simp only [Heap.size_push]; omega
 · rw [if_neg hd]
   refine wpAny_bind (wpAny_pure ?_)
   refine wpAny_bind (wpAny_setEpoch_of ho rfl hf ?_)
   refine wpAny_bind (wpAny_newObj_type (wpAny_pure ⟨_, rfl, "set_iterator", _, ⟨_, Heap.get?_push_size _ rfl, rfl⟩, FS.slot_si_next.lookup, ?_⟩))
   cases hb : byTx w with
   | true =>
    exact hQ _ s.drawn _ _ _ _ (.text hb) (Nat.le_refl _) (Heap.get?_push_size _ rfl) (fun p hp => nomatch hp) (fun b o e => Heap.get?_push_of_some _ e) (by rw [Heap.size_push]; exact Nat.lt_succ_self _) (fun p hp => nomatch hp)
   | false =>
    refine hQ _ s.drawn _ _ _ _ (.few hb ?_) (Nat.le_refl _) (Heap.get?_push_size _ rfl) (fun p hp => nomatch hp) (fun b o e => Heap.get?_push_of_some _ e) (by rw [Heap.size_push]; exact Nat.lt_succ_self _) (fun p hp => nomatch hp)
    rcases hp with h | h
    · omega
    · simp [hb, h] at hd
      exact hd
end
section
variable {prog : Program} {w : World} {A : Around} {E : Value → Shared → Prop} {s : Shared}
def SSt (w : World) (I a : Addr) (es : Array (Int × Value)) (ep : Nat) (t : SetTable) (f : Nat → Value) (ob : List (Addr × Obj)) (i : Nat) (h : Heap) : Prop :=
 zco h I a (f i) i es.size ep ∧ h.get? a = some { cls := .type "set", dict := none, data := .set es ep t } ∧ ∀ p ∈ ob, h.get? p.1 = some p.2
theorem zfR (p : Nat) : SetTable.below #[p] 0 = 0 ∧ SetTable.below #[p] (p + 1) = 1 := by
 constructor
 · simp [SetTable.below, SetTable.below.go]
 · simp [SetTable.below, SetTable.below.go]
theorem zbU {h : Heap} {I a : Addr} {first x : Value} {i n ep k : Nat} (hi : zco h I a first i n ep) (f : Array Value → Array Value) :
 (h.update I (Obj.mapFields f)).get? I = some { cls := .type "set_iterator", dict := none, data := .fields (f #[first, .int i 0, .ref a, .int n 0, .int ep 0]) } := by
 have := Heap.get?_update_self (Obj.mapFields f) hi rfl
 exact this
set_option maxHeartbeats 1000000 in
theorem ziE {I a : Addr} {es : Array (Int × Value)} {ep : Nat} {t : SetTable} {f : Nat → Value} {vs : List Value} {ob : List (Addr × Obj)} {i : Nat} {v : Value} {Q : Option Value → Shared → Prop}
 (hO : SOrd w a es ep t f vs ob) (hf : t.fits es.size = true) (hl : t.led = !byTx w) (hne : a ≠ I) (hob : ∀ p ∈ ob, p.1 ≠ I) (hS : SSt w I a es ep t f ob i s.heap) (hv : vs[i]? = some v)
 (hQ : ∀ h', SSt w I a es ep t f ob (i + 1) h' → Heap.SameBut I s.heap h' → Q (some v) { s with heap := h' }) :
 wpAny (model prog w) A (pyNext (.ref I)) Q E s := by
 obtain ⟨hi, ha, hbs⟩ := hS
 have hT : s.TypeIs (.ref I) "set_iterator" := ⟨_, hi, rfl⟩
 unfold pyNext
 refine wpAny_bind (wpAny_attempt (wpAny_callSpecial?_slot (name := Str.ofString "__next__") hT FS.slot_si_next
  (wpAny_call_entry FS.slot_si_next hT FS.entry_si_next ?_ (FS.args_si_next _))))
 unfold Builtin.«set_iterator.__next__»
 refine wpAny_bind (m := slotArgs _ _ _) (wpAny_pure ?_)
 dsimp only
 refine wpAny_bind (wpAny_fieldsOf hi rfl ?_)
 dsimp only
 refine wpAny_bind (wpAny_setEntries_of ha rfl hf ?_)
 rw [if_neg (by simp)]
 have hil : i < vs.length := (List.getElem?_eq_some_iff.mp hv).1
 have fin : ∀ (first : Value) (h' : Heap), Heap.SameBut I s.heap h' → zco h' I a (f (i + 1)) (i + 1) es.size ep → Q (some v) { s with heap := h' } := fun first h' sb hi' =>
  hQ h' ⟨hi', by rw [sb.2 a hne]; exact ha, fun p hp => by rw [sb.2 p.1 (hob p hp)]; exact hbs p hp⟩ sb
 cases hO with
 | drawn T places h0 hp h2 =>
  dsimp only
  have hTt := hbs _ (List.mem_singleton.mpr rfl)
  refine wpAny_bind (wpAny_seqItems hTt rfl ?_)
  have hpl : places.length = es.size := by rw [hp.length_eq, List.length_range]
  have hall : ∀ p ∈ places, p < es.size := fun p hm => by simpa using hp.mem_iff.mp hm
  have hfm : ∀ (l : List Nat), (∀ p ∈ l, p < es.size) → (l.filterMap fun p => (es[p]?).map (·.2)) = l.map fun p => (es.getD p (0, .none)).2 := by
   intro l
   induction l with
   | nil => intro _; rfl
   | cons q l ih =>
    intro hq
    have hq0 : q < es.size := hq q (by simp)
    have h1 : es[q]? = some es[q] := Array.getElem?_eq_getElem hq0
    rw [List.filterMap_cons, h1, List.map_cons, ← ih fun p hm => hq p (by simp [hm])]
    simp [Array.getD, hq0]
  rw [hfm places hall, List.getElem?_map] at hv
  cases hpi : places[i]? with
  | none => rw [hpi] at hv; cases hv
  | some pl =>
   rw [hpi] at hv
   have hlt : pl < es.size := hall pl (List.mem_of_getElem? hpi)
   have hvv : v = es[pl].2 := by
    have : (es.getD pl (0, .none)).2 = v := Option.some.inj hv
    rw [← this]
    simp [Array.getD, hlt]
   have hpi' : (places.map fun (i : Nat) => rawInt i).toArray[i]? = some (.int pl 0) := by
    rw [List.getElem?_toArray, List.getElem?_map, hpi]; rfl
   show wpAny _ _ (match (places.map fun (i : Nat) => rawInt i).toArray[(i : Int).toNat]? with | some (.int place _) => _ | some _ => _ | none => _) _ _ _
   rw [Int.toNat_natCast, hpi']
   dsimp only
   unfold setNextDrawn
   refine wpAny_bind (wpAny_bind (wpAny_setState_of ha rfl hf ?_))
   dsimp only
   rw [if_neg (by simp)]
   rw [Int.toNat_natCast, Array.getElem?_eq_getElem hlt]
   dsimp only
   refine wpAny_pure ?_
   refine wpAny_bind (wpAny_setField hi rfl (by simp) ?_)
   refine wpAny_pure ⟨_, rfl, wpAny_pure ?_⟩
   rw [← hvv]
   exact fin v _ (Heap.SameBut.update ..) (zbU (x := v) (k := 0) hi _)
 | text h0 =>
  show wpAny _ _ (setNext a 0 (i : Int).toNat (ep : Int).toNat >>= _) _ _ _
  rw [zcq, Int.toNat_natCast, Int.toNat_natCast]
  refine wpAny_bind (wpAny_bind (wpAny_setState_of ha rfl hf (wpAny_bind (zbe ?_))))
  rw [if_pos h0]
  dsimp only
  rw [if_neg (by simp)]
  unfold setWalk
  refine wpAny_bind (wpAny_bind (wpAny_setState_of ha rfl hf (wpAny_bind (zbe ?_))))
  rw [if_pos h0]
  refine wpAny_bind (wpAny_askSetting (wpAny_pure (wpAny_pure ?_)))
  rw [List.getElem?_map, Array.getElem?_toList] at hv
  cases hpk : (pickOrder (w.params.setOrder a ep) es)[i]? with
  | none => rw [hpk] at hv; cases hv
  | some e =>
   rw [hpk] at hv
   show wpAny _ _ (match ((pickOrder (w.params.setOrder a ep) es)[i]?).map fun e => (e.2, 0) with | some (x, next) => _ | none => _) _ _ _
   rw [hpk]
   have hvv : e.2 = v := Option.some.inj hv
   dsimp only [Option.map]
   refine wpAny_bind (wpAny_setField hi rfl (by simp) ?_)
   have hi1 := zbU (x := v) (k := 0) hi (·.setIfInBounds 0 (rawInt (0 : Nat)))
   refine wpAny_bind (wpAny_setField (s := { s with heap := s.heap.update I (Obj.mapFields (·.setIfInBounds 0 (rawInt (0 : Nat)))) }) hi1 rfl (by simp) ?_)
   refine wpAny_pure ⟨_, rfl, wpAny_pure ?_⟩
   rw [hvv]
   refine fin v _ ((Heap.SameBut.update ..).trans (Heap.SameBut.update ..)) ?_
   exact zbU (x := v) (k := 0) (i := i) (first := rawInt 0) (n := es.size) (ep := ep) (a := a) (by exact hi1) _
 | few h0 h2 =>
  have hi0 : i = 0 := by rw [List.length_map, Array.length_toList] at hil; omega
  subst hi0
  have hsz : es.size = 1 := by rw [List.length_map, Array.length_toList] at hil; omega
  show wpAny _ _ (setNext a 0 (0 : Int).toNat (ep : Int).toNat >>= _) _ _ _
  rw [zcq, Int.toNat_natCast]
  refine wpAny_bind (wpAny_bind (wpAny_setState_of ha rfl hf (wpAny_bind (zbe ?_))))
  rw [if_neg (by rw [h0]; simp)]
  dsimp only
  rw [if_neg (by simp [hsz])]
  rw [hl, h0]
  refine wpAny_bind (m := ite _ _ _) ?_
  rw [if_neg (by simp)]
  refine wpAny_pure ?_
  obtain ⟨p, hpp⟩ : ∃ p, t.place = #[p] := by
   have h1 : t.place.size = 1 := by
    simp only [SetTable.fits, Bool.and_eq_true, beq_iff_eq] at hf
    rw [hf.1, hsz]
   generalize t.place = tp at h1
   obtain ⟨pl⟩ := tp
   cases pl with
   | nil => simp at h1
   | cons p r => cases r with
    | nil => exact ⟨p, rfl⟩
    | cons q r => simp at h1
  obtain ⟨⟨eh, ev⟩, hes⟩ : ∃ e, es = #[e] := by
   obtain ⟨el⟩ := es
   cases el with
   | nil => simp at hsz
   | cons p r => cases r with
    | nil => exact ⟨p, rfl⟩
    | cons q r => simp at hsz
  subst hes
  have hvv : ev = v := by simpa using hv
  subst hvv
  rw [hpp, (zfR p).1]
  refine wpAny_pure ?_
  show wpAny _ _ (setField (.ref I) 0 (rawInt ((p + 1 : Nat) : Int)) >>= _) _ _ _
  refine wpAny_bind (wpAny_setField hi rfl (by simp) ?_)
  have hi1 := zbU (x := ev) (k := 0) hi (·.setIfInBounds 0 (rawInt ((p + 1 : Nat) : Int)))
  refine wpAny_bind (wpAny_setField (s := { s with heap := s.heap.update I (Obj.mapFields (·.setIfInBounds 0 (rawInt ((p + 1 : Nat) : Int)))) }) hi1 rfl (by simp) ?_)
  refine wpAny_pure ⟨_, rfl, wpAny_pure ?_⟩
  refine fin ev _ ((Heap.SameBut.update ..).trans (Heap.SameBut.update ..)) ?_
  have := zbU (x := ev) (k := 0) (i := 0) (first := rawInt ((p + 1 : Nat) : Int)) (n := 1) (ep := ep) (a := a) (by exact hi1) (·.setIfInBounds 1 (rawInt ((0 : Nat) + 1 : Int)))
  rw [hpp]
  exact this
end
section
variable {prog : Program} {w : World} {A : Around} {E : Value → Shared → Prop} {s : Shared}
theorem zeD {h1 : Heap} {I : Addr} {P : Fin → Shared → Prop} {Q : Option Value → Shared → Prop} (hh : A.handled = none) (sb : Heap.SameBut I s.heap h1) (hQ : ∀ h', Heap.ExtBut I s.heap h' → Q none { s with heap := h' }) :
 wpAny (model prog w) A.in1 (newExc (.type "StopIteration") [] >>= fun x => raiseNew x) P
  (fun e s' => wpAny (model prog w) A (do if ← isInstance e (.type "StopIteration") then pure none else throw e) Q E s') { s with heap := h1 } := by
 refine wpAny_bind ?_
 simp only [newExc, newTuple]
 refine wpAny_bind (wpAny_newObj_type ?_ (by size_fits))
 refine wpAny_bind (m := firstArgMember _ _) (wpAny_of_eq (a := Value.none) (by first | rfl | (simp only [firstArgMember]; rfl)) ?_)
 refine wpAny_newObj_type ?_ (by size_fits)
 simp only [raiseNew]
 refine wpAny_bind (wpAny_handled ?_)
 rw [show A.in1.handled = none from hh]
 refine wpAny_bind (wpAny_pure (wpAny_throw ?_))
 refine wpAny_bind (wpAny_isInstance (T := "StopIteration") (b := true) ⟨_, Heap.get?_push_size _ rfl, rfl⟩ isSubtype_stop ?_)
 exact wpAny_pure (hQ _ ((sb.extBut.push _).push _))
set_option maxHeartbeats 1000000 in
theorem zjS {I a : Addr} {es : Array (Int × Value)} {ep : Nat} {t : SetTable} {f : Nat → Value} {vs : List Value} {ob : List (Addr × Obj)} {Q : Option Value → Shared → Prop} (hh : A.handled = none)
 (hO : SOrd w a es ep t f vs ob) (hf : t.fits es.size = true) (hl : t.led = !byTx w) (hne : a ≠ I) (hob : ∀ p ∈ ob, p.1 ≠ I) (hS : SSt w I a es ep t f ob es.size s.heap)
 (hQ : ∀ h', Heap.ExtBut I s.heap h' → Q none { s with heap := h' }) :
 wpAny (model prog w) A (pyNext (.ref I)) Q E s := by
 obtain ⟨hi, ha, hbs⟩ := hS
 have hT : s.TypeIs (.ref I) "set_iterator" := ⟨_, hi, rfl⟩
 unfold pyNext
 refine wpAny_bind (wpAny_attempt (wpAny_callSpecial?_slot (name := Str.ofString "__next__") hT FS.slot_si_next
  (wpAny_call_entry FS.slot_si_next hT FS.entry_si_next ?_ (FS.args_si_next _))))
 unfold Builtin.«set_iterator.__next__»
 refine wpAny_bind (m := slotArgs _ _ _) (wpAny_pure ?_)
 dsimp only
 refine wpAny_bind (wpAny_fieldsOf hi rfl ?_)
 dsimp only
 refine wpAny_bind (wpAny_setEntries_of ha rfl hf ?_)
 rw [if_neg (by simp)]
 cases hO with
 | drawn T places h0 hp h2 =>
  dsimp only
  have hTt := hbs _ (List.mem_singleton.mpr rfl)
  refine wpAny_bind (wpAny_seqItems hTt rfl ?_)
  have hpl : places.length = es.size := by rw [hp.length_eq, List.length_range]
  have hpi' : (places.map fun (i : Nat) => rawInt i).toArray[es.size]? = none := by
   rw [List.getElem?_toArray, List.getElem?_map, List.getElem?_eq_none (by omega)]; rfl
  show wpAny _ _ (match (places.map fun (i : Nat) => rawInt i).toArray[(es.size : Int).toNat]? with | some (.int place _) => _ | some _ => _ | none => _) _ _ _
  rw [Int.toNat_natCast, hpi']
  dsimp only
  refine wpAny_bind (wpAny_setField hi rfl (by simp) ?_)
  have hi1 := zbU (x := .none) (k := 0) hi (·.setIfInBounds 0 (rawInt 0))
  refine wpAny_bind (wpAny_setField (s := { s with heap := s.heap.update I (Obj.mapFields (·.setIfInBounds 0 (rawInt 0))) }) hi1 rfl (by simp) ?_)
  exact zeD (s := s) (I := I) hh ((Heap.SameBut.update ..).trans (Heap.SameBut.update ..)) hQ
 | text h0 =>
  show wpAny _ _ (setNext a 0 (es.size : Int).toNat (ep : Int).toNat >>= _) _ _ _
  rw [zcq, Int.toNat_natCast, Int.toNat_natCast]
  refine wpAny_bind (wpAny_bind (wpAny_setState_of ha rfl hf (wpAny_bind (zbe ?_))))
  rw [if_pos h0]
  dsimp only
  rw [if_neg (by simp)]
  unfold setWalk
  refine wpAny_bind (wpAny_bind (wpAny_setState_of ha rfl hf (wpAny_bind (zbe ?_))))
  rw [if_pos h0]
  refine wpAny_bind (wpAny_askSetting (wpAny_pure (wpAny_pure ?_)))
  have hpk : (pickOrder (w.params.setOrder a ep) es)[es.size]? = none := by
   have h1 := (zfs (w.params.setOrder a ep) es).length_eq
   rw [Array.length_toList, Array.length_toList] at h1
   exact Array.getElem?_eq_none (by omega)
  show wpAny _ _ (match ((pickOrder (w.params.setOrder a ep) es)[es.size]?).map fun e => (e.2, 0) with | some (x, next) => _ | none => _) _ _ _
  rw [hpk]
  dsimp only [Option.map]
  refine wpAny_bind (wpAny_setField hi rfl (by simp) ?_)
  exact zeD (s := s) (I := I) hh (Heap.SameBut.update ..) hQ
 | few h0 h2 =>
  show wpAny _ _ (setNext a (if es.size = 0 then (0 : Int) else (t.place.getD 0 0 : Int) + 1).toNat (es.size : Int).toNat (ep : Int).toNat >>= _) _ _ _
  rw [zcq, Int.toNat_natCast]
  refine wpAny_bind (wpAny_bind (wpAny_setState_of ha rfl hf (wpAny_bind (zbe ?_))))
  rw [if_neg (by rw [h0]; simp)]
  dsimp only
  rw [if_neg (by simp; intro _; omega)]
  rw [hl, h0]
  refine wpAny_bind (m := ite _ _ _) ?_
  rw [if_neg (by simp)]
  refine wpAny_pure ?_
  have hps : t.place.size = es.size := by
   simp only [SetTable.fits, Bool.and_eq_true, beq_iff_eq] at hf
   exact hf.1
  have hnone : es[SetTable.below t.place (if es.size = 0 then (0 : Int) else (t.place.getD 0 0 : Int) + 1).toNat]? = none := by
   generalize t.place = tp at hps
   obtain ⟨pl⟩ := tp
   cases pl with
   | nil =>
    have : es.size = 0 := by simpa using hps.symm
    exact Array.getElem?_eq_none (by omega)
   | cons p r =>
    cases r with
    | nil =>
     have h1 : es.size = 1 := by simpa using hps.symm
     rw [if_neg (by omega)]
     have : ((([p].toArray).getD 0 0 : Nat) : Int) + 1 = ((p + 1 : Nat) : Int) := rfl
     rw [this, Int.toNat_natCast, (zfR p).2]
     exact Array.getElem?_eq_none (by omega)
    | cons q r =>
     have : es.size = r.length + 2 := by simpa using hps.symm
     omega
  rw [hnone]
  refine wpAny_pure ?_
  show wpAny _ _ (setField (.ref I) 2 .none >>= _) _ _ _
  refine wpAny_bind (wpAny_setField hi rfl (by simp) ?_)
  exact zeD (s := s) (I := I) hh (Heap.SameBut.update ..) hQ
theorem zif {I a : Addr} {first : Value} {i n ep : Nat} {Q : Value → Shared → Prop} (hi : zco s.heap I a first i n ep) (h : Q (.ref I) s) : wpAny (model prog w) A (pyIter (.ref I)) Q E s := by
 have hT : s.TypeIs (.ref I) "set_iterator" := ⟨_, hi, rfl⟩
 refine wpAny_pyIter_slot hT FS.slot_si_iter (wpAny_call_entry FS.slot_si_iter hT FS.entry_si_iter ?_ (FS.args_si_iter _))
 show wpAny _ _ (ret (.ref I)) _ _ s
 exact wpAny_pure ⟨_, rfl, "set_iterator", _, hT, FS.slot_si_next.lookup, h⟩
end
theorem zht {prog : Program} {w : World} {A : Around} {I a : Addr} {es : Array (Int × Value)} {ep : Nat} {t : SetTable} {f : Nat → Value} {vs : List Value} {ob : List (Addr × Obj)} (hh : A.handled = none)
 (hO : SOrd w a es ep t f vs ob) (hf : t.fits es.size = true) (hl : t.led = !byTx w) (hne : a ≠ I) (hob : ∀ p ∈ ob, p.1 ≠ I) :
 Walks prog w A I (I :: a :: ob.map (·.1)) [I] es.size (fun i v => vs[i]? = some v) (SSt w I a es ep t f ob) where
 sub := fun b hb => by simp at hb; simp [hb]
 frame := fun i h h' st hk => ⟨hk I (by simp) _ st.1, hk a (by simp) _ st.2.1, fun p hp => hk p.1 (by simp; exact .inr (.inr ⟨p.2, hp⟩)) _ (st.2.2 p hp)⟩
 item := fun i s Q E hi st hQ => by
  have hlen : vs.length = es.size := by rw [hO.perm.length_eq, List.length_map, Array.length_toList]
  refine ziE hO hf hl hne hob st (v := vs[i]'(by omega)) (List.getElem?_eq_getElem (by omega)) fun h' st' sb => ?_
  exact hQ _ h' s.toks (List.getElem?_eq_getElem (by omega)) st' fun b o hb e => sb.extBut b o (fun h => hb (by simp [h])) e
 done := fun s Q E st hQ => zjS hh hO hf hl hne hob st fun h' he' => hQ h' s.toks fun b o hb e => he' b o (fun h => hb (by simp [h])) e
 self := fun _ _ _ _ st hQ => zif st.1 hQ
namespace FS
theorem set_len : typeLookup (.type "set") "__len__" = pure (some (.builtin "set.__len__")) := by rw [typeLookup_type, builtinLookup_eq_fast]; kernel_rfl
theorem split_set_len : splitId "set.__len__" = some ("set", "__len__") := by decide +kernel
end FS
section
variable {prog : Program} {w : World} {A : Around} {E : Value → Shared → Prop} {s : Shared}
theorem zi3 {a : Addr} {Q : Bool → Shared → Prop} (hT : s.TypeIs (.ref a) "set") (h : Q false s) : wpAny (model prog w) A (Builtin.List.listLengthHint (.ref a)) Q E s := by
 unfold Builtin.List.listLengthHint
 refine wpAny_bind (wpAny_specialOf hT FS.set_len ?_)
 dsimp only
 generalize hid : ("set.__len__" : String) = id0
 rw [show splitId id0 = some ("set", "__len__") from by subst hid; exact FS.split_set_len]
 subst hid
 dsimp only
 refine wpAny_bind (wpAny_isInstance (b := true) hT sub_set_self ?_)
 simp only [Bool.not_true, Bool.false_eq_true, if_false]
 refine wpAny_bind (wpAny_typeOf hT (wpAny_pure h))
set_option maxHeartbeats 1000000 in
theorem zfI {a : Addr} {ks : List Str} {Q : List Value → Shared → Prop} (hh : A.handled = none) (T : TxSet prog w s.heap a ks)
 (hQ : ∀ h' d' tk vs js, StrsAre vs js → js.Perm ks → s.heap.objs.size < h'.objs.size → (∀ b o, s.heap.get? b = some o → h'.get? b = some o) → Q vs { s with heap := h', drawn := d', toks := tk }) :
 wpAny (model prog w) A (collect (.ref a)) Q E s := by
 obtain ⟨⟨es, ep, t, ho, hel, hks, hf, hled, hpl⟩, hnd, hfew⟩ := T
 have hsz : es.size = ks.length := by rw [← zbC hks, List.length_map, Array.length_toList]
 have haS : a < s.heap.objs.size := Heap.lt_size ho
 unfold collect
 refine wpAny_bind (wpAny_runValue (codeAny_builtin PySem.F.entry_proto_collect ?_))
 rw [Around.under_plainId PySem.F.plain_proto_collect _]
 show wpAny _ A.in1 (newList [] >>= fun l => again (.builtin "list.__iadd__" ⟨[l, .ref a], []⟩)) _ _ s
 refine wpAny_bind (wpAny_newObj_type ?_)
 refine wpAny_pure ⟨plainId_quiet PySem.F.plain_list_iadd _, codeAny_builtin PySem.F.entry_list_iadd ?_⟩
 rw [Around.under_plainId PySem.F.plain_list_iadd _]
 generalize hh1 : s.heap.push { cls := .type "list", data := .seq ([] : List Value).toArray } = h1
 have hk1 : ∀ b o, s.heap.get? b = some o → h1.get? b = some o := fun b o e => by rw [← hh1]; exact Heap.get?_push_of_some _ e
 have hS1 : h1.get? s.heap.objs.size = some { cls := .type "list", data := .seq ([] : List Value).toArray } := by rw [← hh1]; exact Heap.get?_push_size _ rfl
 have hz1 : s.heap.objs.size < h1.objs.size := Heap.lt_size hS1
 show wpAny _ A.in1 (Builtin.List.listExtendWith (.ref s.heap.objs.size) (.ref a) (.ref s.heap.objs.size)) _ _ { s with heap := h1 }
 unfold Builtin.List.listExtendWith
 have hT1 : Shared.TypeIs { s with heap := h1 } (.ref a) "set" := ⟨_, hk1 _ _ ho, rfl⟩
 refine wpAny_bind (wpAny_typeOf hT1 ?_)
 have e1 : Builtin.List.listSameRef (.ref s.heap.objs.size) (.ref a) = false := by
  unfold Builtin.List.listSameRef
  exact beq_eq_false_iff_ne.mpr (Ne.symm (Nat.ne_of_lt haS))
 rw [if_neg (by rw [e1]; decide)]
 refine wpAny_bind (ziY (s := { s with heap := h1 }) (hk1 _ _ ho) hf hpl (by rw [hsz]; exact fits_of_scanBound hfew) fun h2 d2 I f vs ob hO hI hi hob hk2 hI2 hob2 => ?_)
 refine wpAny_bind (wpAny_holding (zi3 (s := { s with heap := h2, drawn := d2 }) ⟨_, hk2 _ _ (hk1 _ _ ho), rfl⟩ ?_))
 rw [if_pos (by decide)]
 refine wpAny_bind (wpAny_rule ?_)
 have hS2 : h2.get? s.heap.objs.size = some { cls := .type "list", data := .seq ([] : List Value).toArray } := hk2 _ _ hS1
 refine wpAny_bind ?_
 show wpAny _ A.in1 (updateSeq s.heap.objs.size (·.push .none) >>= fun _ => updateSeq s.heap.objs.size (·.pop)) _ _ { s with heap := h2, drawn := d2 }
 refine wpAny_bind (wpAny_updateSeq hS2 rfl ?_)
 have hS3 := Heap.get?_update_self (Obj.mapSeq (·.push Value.none)) hS2 rfl
 refine wpAny_updateSeq hS3 rfl ?_
 have hS4 := Heap.get?_update_self (Obj.mapSeq (·.pop)) hS3 rfl
 have oth : ∀ b o, b ≠ s.heap.objs.size → h2.get? b = some o → ((h2.update s.heap.objs.size (Obj.mapSeq (·.push Value.none))).update s.heap.objs.size (Obj.mapSeq (·.pop))).get? b = some o :=
  fun b o hb e => (Heap.get?_update_other _ _ (Ne.symm hb)).trans ((Heap.get?_update_other _ _ (Ne.symm hb)).trans e)
 have hIne : I ≠ s.heap.objs.size := Ne.symm (Nat.ne_of_lt (Nat.lt_of_lt_of_le hz1 hI))
 have hane : a ≠ I := Nat.ne_of_lt (Nat.lt_of_lt_of_le haS (Nat.le_trans (Nat.le_of_lt hz1) hI))
 have hobne : ∀ p ∈ ob, p.1 ≠ s.heap.objs.size := fun p hp => Ne.symm (Nat.ne_of_lt (Nat.lt_of_lt_of_le hz1 (hob p hp).2.1))
 have W := (zht (prog := prog) (A := A.in1) (by simpa using hh) hO hf hled hane (fun p hp => (hob p hp).2.2)).toS
 have hlen : vs.length = es.size := by rw [hO.perm.length_eq, List.length_map, Array.length_toList]
 obtain ⟨js, hjs, hjp⟩ := zcg hO.perm hks
 refine wpAny_pure ⟨plainId_quiet PySem.F.plain_extend_loop _, codeAny_extend_loopS W (by rw [hsz]; exact fits_of_scanBound hfew) s.heap.objs.size ?_ _ es.size 0 _ _ _ rfl (Nat.zero_le _)
  ⟨oth _ _ hIne hi, oth _ _ (Nat.ne_of_lt haS) (hk2 _ _ (hk1 _ _ ho)), fun p hp => oth _ _ (hobne p hp) (hob p hp).1⟩ hS4 (ItemsOf.nil _) fun s' acc' c' hm hS' hacc => ?_⟩
 · intro hmem
   rw [List.mem_cons, List.mem_cons, List.mem_map] at hmem
   rcases hmem with h | h | ⟨p, hp, h⟩
   · exact hIne h.symm
   · exact Nat.ne_of_lt haS h.symm
   · exact hobne p hp h
 · show wpAny _ A (load s.heap.objs.size >>= _) _ _ s'
   refine wpAny_bind (wpAny_load hS' ?_)
   have hav : acc'.toList = vs := by
    apply List.ext_getElem?
    intro j
    by_cases hj : j < es.size
    · have hj' : j < acc'.size := by rw [hacc.1]; exact hj
      have h1 : acc'.toList[j]? = some acc'[j] := by rw [Array.getElem?_toList]; exact Array.getElem?_eq_getElem hj'
      rw [h1]
      exact (hacc.2 j _ (Array.getElem?_eq_getElem hj')).symm
    · rw [List.getElem?_eq_none (by rw [Array.length_toList, hacc.1]; omega), List.getElem?_eq_none (by omega)]
   obtain ⟨h', g', d', tk', os'⟩ := s'
   have eg : g' = s.gens := hm.gens
   have ed : d' = d2 := hm.drawn
   have eo : os' = s.os := hm.os
   subst eg; subst ed; subst eo
   refine wpAny_pure ?_
   rw [hav]
   refine hQ h' d' tk' vs js hjs hjp (Heap.lt_size hS') fun b o e => ?_
   have hb : b < s.heap.objs.size := Heap.lt_size e
   refine hm.heap b o ?_ (oth b o (Nat.ne_of_lt hb) (hk2 _ _ (hk1 _ _ e)))
   have h0 : h1.objs.size ≤ I := hI
   simp only [List.mem_cons, List.not_mem_nil, or_false, not_or]
   exact ⟨Nat.ne_of_lt hb, Nat.ne_of_lt (Nat.lt_of_lt_of_le hb (Nat.le_trans (Nat.le_of_lt hz1) hI))⟩
end
section
variable {prog : Program} {w : World} {A : Around} {E : Value → Shared → Prop} {s : Shared}
theorem zgc {a : Addr} {ks : List Str} {Q : Value → Shared → Prop} (hh : A.handled = none) (T : TxSet prog w s.heap a ks) (h64 : ks.length < 64)
 (h : ∀ (p : Addr) (h' : Heap) (d' : Drawn) (tk : Nat) (out : Array Value) (ms : List Str) (e : Nat), StrsAre out.toList ms → ms.Perm ks → sortedS ms = true → s.heap.objs.size ≤ p → h'.get? p = some (seqObj "list" out e) →
  (∀ b o, s.heap.get? b = some o → h'.get? b = some o) → Q (.ref p) { s with heap := h', drawn := d', toks := tk }) :
 wpAny (model prog w) A (call (.builtin "sorted") [.ref a]) Q E s := by
 refine Calls.call_function_entry kind_sorted plain_sorted entry_sorted (args_sorted1 _) ?_
 unfold Builtin.«sorted»
 refine wpAny_bind (m := checkCount "sorted" 1 1 _) (wpAny_pure ?_)
 refine wpAny_bind (zfI (by simpa using hh) T fun h1 d1 tk1 vs js hv hp hz hk => ?_)
 have hvl : vs.length = ks.length := by rw [zbC hv, hp.length_eq]
 refine wpAny_bind (wpAny_newList ?_ (by rw [sizeLine_eq]; omega))
 have hoL : (h1.push (seqObj "list" vs.toArray 0)).get? h1.objs.size = some (seqObj "list" vs.toArray 0) := Heap.get?_push_size _ rfl
 show wpAny _ _ (holding _ _ >>= _) _ _ { s with heap := h1.push (seqObj "list" vs.toArray 0), drawn := d1, toks := tk1 }
 refine wpAny_bind (wpAny_holding (wpAny_call_entry slot_list_sort ⟨_, hoL, rfl⟩ entry_list_sort (list_sort_treeK strKind_oneLt hoL hv.keysOf (fun v₁ v₂ rest e => keyKind_strs (by rw [← e]; exact hv)) (by omega) fun st' a1 a2 => ⟨_, rfl, ?_⟩) (args_list_sort _)))
 obtain ⟨ms, m1, m2, m3⟩ := sorted_out_str hv a1 a2
 obtain ⟨e, he⟩ := sortedHeap_at (out := (arrOf st').map (·.2)) hoL
 refine wpAny_pure ⟨_, rfl, h h1.objs.size _ d1 tk1 _ ms e m1 (m2.trans hp) m3 (Nat.le_of_lt hz) he fun b o eb => ?_⟩
 · have hb : b < h1.objs.size := Heap.lt_size (hk b o eb)
   rw [sortedHeap_old (Nat.ne_of_lt hb) (by rw [size_push']; exact Nat.lt_succ_of_lt hb)]
   exact Heap.get?_push_of_some _ (hk b o eb)
end
section
variable {X : Cx} {e : Expr} {te : TE} {pos p2 p3 p4 : Pos}
def zjr (K : PySem.W.Frag) (te : TE) : TE := fun σ H Q => te σ H fun x H1 => ∃ (a : Addr) (ts : List Str), [x] = [V.ref a] ∧ SqL K H1 a (ts.map V.str) ∧ ts.length < 64 ∧
 ∀ (p : Addr) (ms : List Str), ms.Nodup → (∀ x, x ∈ ms ↔ x ∈ ts) → ms.length ≤ ts.length → sortedS ms = true → H1 p = none → Q (.ref p) (upd H1 p (.lst (ms.map V.str)))
theorem zhD (hc : X.calm = true) (he : PE X e te) (hg : Gl X "sorted") (hm : X.mg "sorted" = none) (hg2 : Gl X "set") (hm2 : X.mg "set" = none)
 (h1 : starEach [e] X.env = (false, eval e X.env) :: starEach [] X.env := by rfl)
 (h2 : starEach [.Call (.Name "set" p2) [e] [] p3] X.env = (false, eval (.Call (.Name "set" p2) [e] [] p3) X.env) :: starEach [] X.env := by rfl)
 (h3 : (backTo p3 (starEach [] X.env)).any (·.1) = false := by rfl) (h4 : (backTo pos (starEach [] X.env)).any (·.1) = false := by rfl) :
 PE X (.Call (.Name "sorted" p4) [.Call (.Name "set" p2) [e] [] p3] [] pos) (zjr X.K te) := by
 intro pins s σ H Q I h
 refine wpAny_Call_Name_kw (zcY I hg hm zji ?_ (by decide) (by decide))
 refine PyProof.Rows.callWith_builtin1 ?_ h2 h4
 rw [h2]
 show wpAny _ _ (spliced ((false, eval (.Call (.Name "set" p2) [e] [] p3) X.env) :: backTo pos (starEach [] X.env))) _ _ s
 refine Calls.spliced_cons ?_
 refine wpAny_Call_Name_kw (zcY I hg2 hm2 zlY ?_ (by decide) (by decide))
 refine PyProof.Rows.callWith_type1 (thn (zaa he zac h1 p3 pins s σ H (fun vs H1 => ∃ (a : Addr) (ts : List Str), vs = [.ref a] ∧ SqL X.K H1 a (ts.map V.str) ∧ ts.length < 64 ∧
  ∀ (p : Addr) (ms : List Str), ms.Nodup → (∀ x, x ∈ ms ↔ x ∈ ts) → ms.length ≤ ts.length → sortedS ms = true → H1 p = none → Q (.ref p) (upd H1 p (.lst (ms.map V.str)))) I ?_) fun us s1 ⟨vs, H1, I1, r1, a, ts, hv, hq, hn, q⟩ => ?_) h1 h3
 · exact h
 subst hv
 obtain ⟨u1, rfl, v1⟩ := zc3 r1
 cases v1
 obtain ⟨its, rv, ht, hz⟩ := I1.list hq
 refine zfa (I1.ok.hd hc) ht.isList (ts := ts) (by simpa using zei rv) (by unfold scanBound; omega) fun h' tk ks hT hl hmem kp => ?_
 have I2 : Inv X pins σ H1 { s1 with heap := h', toks := tk } := I1.kept fun b o e => kp b o (Heap.lt_size e) e
 refine Calls.spliced_nil ?_
 refine zgc (s := { s1 with heap := h', toks := tk }) (I1.ok.hd hc) hT (by omega) fun p h2 d2 tk2 out ms ee a1 a2 a3 a4 a5 a6 => ?_
 have hn1 : H1 p = none := I2.hok.fresh a4
 have I3 : Inv X pins σ H1 { s1 with heap := h', drawn := d2, toks := tk } := ⟨I2.ok, I2.os, I2.bare, I2.base, I2.loc, I2.cell, I2.free, I2.freeC, I2.pin, I2.hok, I2.len⟩
 refine ⟨.ref p, upd H1 p (.lst (ms.map V.str)), I3.laid (t' := tk2) a6 a4 ?_, rfl, q p ms (a2.nodup_iff.mpr hT.nodup) (fun x => (a2.mem_iff).trans (hmem x)) (by rw [a2.length_eq]; exact hl) a3 hn1⟩
 have hlen : ms.length ≤ ts.length := by rw [a2.length_eq]; exact hl
 exact ⟨by rw [List.length_map, sizeLine_eq]; omega, out.toList, ee, zdh a1, by simpa [seqObj] using a5⟩
end
theorem zh5 {x y : Str} (h : x.cps.toList = y.cps.toList) : x = y := by
 obtain ⟨a⟩ := x
 obtain ⟨b⟩ := y
 congr
 exact Array.toList_inj.mp h
theorem zkM {x y : Str} (h : ¬ ltF x y) (n : x ≠ y) : ltF y x := by
 unfold ltF at *
 rcases Std.lt_trichotomy (α := List Nat) x.cps.toList y.cps.toList with h1 | h1 | h1
 · exact absurd h1 h
 · exact absurd (zh5 h1) n
 · exact h1
theorem ziI {x y z : Str} (h : ltF x y) (h2 : ltF y z) : ltF x z := List.lt_trans h h2
theorem zfn : ∀ (r : List Str) (p : Str), risingS p r = true → (p :: r).Nodup → (p :: r).Pairwise ltF
 | [], p, _, _ => List.pairwise_singleton _ _
 | x :: r, p, h, n => by
  unfold risingS at h
  rw [Bool.and_eq_true, Bool.not_eq_true', ltCps_eq, decide_eq_false_iff_not] at h
  rw [List.nodup_cons] at n
  have px : ltF p x := zkM (x := x) (y := p) h.1 (fun e => n.1 (by rw [← e]; exact List.mem_cons_self))
  have ih := zfn r x h.2 n.2
  rw [List.pairwise_cons]
  refine ⟨fun y hy => ?_, ih⟩
  rcases List.mem_cons.mp hy with rfl | hy
  · exact px
  · exact ziI px ((List.pairwise_cons.mp ih).1 y hy)
theorem zic {ms : List Str} (h : sortedS ms = true) (n : ms.Nodup) : ms.Pairwise ltF := by
 cases ms with
 | nil => exact .nil
 | cons x r => exact zfn r x h n
theorem PieceAt.keep {H H' : Hp} {a : Addr} {w : List PP} (h : PieceAt H a w) (s : Tups H H') : PieceAt H' a w := by
 obtain ⟨ps, e, h1, h2⟩ := h
 exact ⟨ps, e, s _ _ h1, fun p hp => s _ _ (h2 p hp)⟩
theorem PieceAt.same {H H' : Hp} {a : Addr} {w : List PP} (h : PieceAt H a w) (s : Same H H') : PieceAt H' a w := h.keep s.tups
structure POk (p : List PP) : Prop where
 len : p.length ≤ 100
 ok : ∀ x ∈ p, FieldOk x.1
 asc : (p.map (·.1)).Pairwise ltF
def zdM : Sp := fun vs H Q _ => ∃ (a : Addr) (w : List PP), vs = [.ref a] ∧ PieceAt H a w ∧ POk w ∧ ∀ H', Same H H' → Q (.bl true) H'
def zc6 : Sp := fun vs H Q _ => ∃ (a : Addr) (w : List PP), vs = [.ref a] ∧ PieceAt H a w ∧ POk w ∧ ∀ H', Same H H' → Q .non H'
def zc5 : Sp := fun vs H Q _ => ∃ (b g l : Addr) (n : Int), vs = [.ref b] ∧ Bag H b g l n ∧ n ≤ 10 ^ 8 ∧ ∀ (x : Str) (H' : Hp), FieldOk x → Bag H' b g l (n + 12) → SameB b g H H' → Q (.str x) H'
def zcK : Sp := fun vs H Q _ => ∃ (b g l : Addr) (n most : Int), vs = [.ref b, .int most] ∧ Bag H b g l n ∧ n ≤ 10 ^ 7 ∧ 0 ≤ most ∧ most ≤ 9 ∧
 ∀ (r : Addr) (fs : List Str) (H' : Hp), H r = none → H' r = some (.lst (fs.map V.str)) → fs.Pairwise ltF → (∀ f ∈ fs, FieldOk f) → (fs.length : Int) ≤ most → Bag H' b g l (n + 200) → SameB b g H H' → Q (.ref r) H'
theorem az : ("abcdefghijklmnopqrstuvwxyz" : Str).cps.toList = (List.range 26).map (· + 97) := by decide +kernel
theorem zl2 {r : Int} (h0 : 0 ≤ r) (h1 : r < 26) : ∃ c, atI ("abcdefghijklmnopqrstuvwxyz" : Str).cps.toList r = some c ∧ zbz c = true := by
 rw [az]
 obtain ⟨k, rfl⟩ : ∃ k : Nat, r = k := ⟨r.toNat, by omega⟩
 have hk : k < 26 := by omega
 refine ⟨k + 97, ?_, ?_⟩
 · refine zcb ?_
   rw [List.getElem?_map, List.getElem?_range hk]
   rfl
 · unfold zbz
   rw [Bool.and_eq_true]
   exact ⟨decide_eq_true (by omega), decide_eq_true (by omega)⟩
theorem zer : ∀ (cs : List Nat), (Txt.join ("" : Str) (cs.map fun c => (⟨#[c]⟩ : Str))).cps.toList = cs
 | [] => rfl
 | [c] => rfl
 | c :: d :: r => by
  have ih := zer (d :: r)
  have e : ∀ (ts : List Str), Txt.join ("" : Str) ts = Str.join ("" : Str) ts := fun ts => StrLaws.glued_eq_join _ _
  rw [e] at ih ⊢
  show ((⟨#[c]⟩ : Str) ++ ("" : Str) ++ Str.join ("" : Str) ((d :: r).map fun c => (⟨#[c]⟩ : Str))).cps.toList = _
  have : ((⟨#[c]⟩ : Str) ++ ("" : Str) ++ Str.join ("" : Str) ((d :: r).map fun c => (⟨#[c]⟩ : Str))).cps.toList = c :: (Str.join ("" : Str) ((d :: r).map fun c => (⟨#[c]⟩ : Str))).cps.toList := by
   show (#[c] ++ #[] ++ _ : Array Nat).toList = _
   simp
  rw [this, ih]
theorem ziU (cs : List Nat) (h : cs.length ≤ 1000) : JoinOk ("" : Str) (cs.map fun c => (⟨#[c]⟩ : Str)) = true := by
 unfold JoinOk
 rw [Bool.not_eq_true']
 refine StrLaws.joinFits (B := 1) (fun y hy => ?_) ?_
 · obtain ⟨c, _, rfl⟩ := List.mem_map.mp hy
   exact Nat.le_refl 1
 · rw [List.length_map]
   show cs.length * 1 + cs.length * 0 ≤ _
   omega
theorem zes {cs : List Nat} (h1 : 1 ≤ cs.length) (h8 : cs.length ≤ 8) (ok : ∀ c ∈ cs, zbz c = true) : FieldOk (Txt.join ("" : Str) (cs.map fun c => (⟨#[c]⟩ : Str))) := by
 have e := zer cs
 have hl : (Txt.join ("" : Str) (cs.map fun c => (⟨#[c]⟩ : Str))).length = cs.length := by
  show Array.size _ = _
  rw [← Array.length_toList, e]
 exact ⟨by rw [hl]; exact h1, by rw [hl]; exact h8, by rw [e]; exact ok⟩
theorem SameB.off {b g p : Addr} {H H' : Hp} {o : HO} (s : SameB b g H H') (hp : H p = none) : SameB b g H (upd H' p o) := fun a x h n1 n2 => by
 have : a ≠ p := fun e => by rw [e, hp] at h; cases h
 rw [zak this]
 exact s a x h n1 n2
theorem Bag.off {b g l p : Addr} {n : Int} {H : Hp} {o : HO} (B : Bag H b g l n) (pb : p ≠ b) (pg : p ≠ g) (pl : p ≠ l) : Bag (upd H p o) b g l n := by
 obtain ⟨gs, ls, c, st, e1, e2, e3, r⟩ := B.ex
 exact ⟨⟨gs, ls, c, st, by rw [zak pb.symm]; exact e1, by rw [zak pg.symm]; exact e2, by rw [zak pl.symm]; exact e3, r⟩, B.gl⟩
theorem SameB.none {b g p : Addr} {H H' : Hp} (s : SameB b g H H') (hp : H' p = none) (pb : p ≠ b) (pg : p ≠ g) : H p = none := by
 cases e : H p with
 | none => rfl
 | some o => rw [s p o e pb pg] at hp; cases hp
namespace FS
end FS
section
variable {prog : Program} {w : World} {A : Around} {E : Value → Shared → Prop} {s : Shared}
variable {κ : Type} [DecidableEq κ] {knd : PySem.KeyKind prog w κ}
end
section
variable {X : Cx}
end
section
variable {X : Cx}
end
def hid (b g : Addr) (H : Hp) : Hp := fun a => if a = b ∨ a = g then none else H a
def zg6 (D : Nat) (sp : Nat → Sp) : Sp := fun vs H Q E => ∃ n, n ≤ D ∧ sp n vs H Q E
section
variable {P : Program} {w : World} {K : PySem.W.Frag} {mg : Str → Option Value} {base : Heap}
def zmh : Sp := fun _ _ _ _ => False
theorem zj3 {x : Str} {st : Stmt} {f : Addr} {fd : FuncData} {N ps : List Str} (F : Fun K x x st f fd) (S : FnScope N ps (zag st)) (b : Binds K fd ps []) (M : mg x = some (.ref f)) (L : Nat) (sp : Nat → Sp)
 (step : ∀ n sp0, (∀ m, n = m + 1 → sp0 = sp m) → FnH P w K mg base (L + 1 + n) x ps sp0 → FnOk P w K mg base CX0 (L + 1 + n + 1) f fd ps (sp n)) : ∀ n, FnOk P w K mg base CX0 (L + 1 + n + 1) f fd ps (sp n)
 | 0 => step 0 zmh (fun m z => by cases z) ⟨f, fd, F.ok (k := L) S (fun _ _ _ _ h => h.elim) (fun _ _ _ _ _ _ _ _ _ h => h.elim), b, F.kp, M⟩
 | n + 1 => step (n + 1) (sp n) (fun m z => by cases z; rfl) ⟨f, fd, zj3 F S b M L sp step n, b, F.kp, M⟩
theorem zko {f : Addr} {fd : FuncData} {ps : List Str} {L D : Nat} {sp : Nat → Sp} (h : ∀ n, FnOk P w K mg base CX0 (L + 1 + n + 1) f fd ps (sp n)) : FnOk P w K mg base CX0 (L + D + 2) f fd ps (zg6 D sp) :=
 ⟨fun vs H Q E ⟨n, _, q⟩ => (h n).len vs H Q E q, fun A outer s H args us vs Q E hr he hb hv ⟨n, hn, q⟩ => (h n).run A outer s H args us vs Q E (hr.mono (by omega)) he hb hv q⟩
end
section
variable {X : Cx}
def rIx2 (K : PySem.W.Frag) : R2 := fun x y H Q => ∃ p xs i v, x = .ref p ∧ y = .int i ∧ (SqL K H p xs ∨ SqT K H p xs) ∧ atI xs i = some v ∧ Q v H
theorem zlM : IxR X (rIx2 X.K) := by
 intro value slice pins s σ H x y v u Q I rx ry h hs
 obtain ⟨p, xs, i, z, rfl, rfl, hq, he, q⟩ := h
 rcases hq with hq | hq
 · exact zaD value slice pins s σ H _ _ v u Q I rx ry ⟨p, xs, i, z, rfl, rfl, hq, he, q⟩ hs
 · exact zaW value slice pins s σ H _ _ v u Q I rx ry ⟨p, xs, i, z, rfl, rfl, hq, he, q⟩ hs
theorem ziW (K : PySem.W.Frag) (h : X.K = K) : IxR X (rIx2 K) := by subst h; exact zlM
end
theorem zde : ∀ {ds : List DY} {m : Nat}, (∀ d ∈ ds, zaX d ≤ m) → zbu ds ≤ m
 | [], m, _ => by rw [zbu]; exact Nat.zero_le _
 | d :: ds, m, h => by
  rw [zbu]
  have h1 := h d (List.mem_cons_self ..)
  have h2 := zde fun e he => h e (List.mem_cons_of_mem _ he)
  omega
theorem zdf : ∀ {ds : List DY} {d : DY}, d ∈ ds → zaX d ≤ zbu ds
 | [], d, h => nomatch h
 | e :: ds, d, h => by
  rw [zbu]
  rcases List.mem_cons.mp h with rfl | h
  · omega
  · have := zdf h
    omega
open PySem.AutoSeq1 (wpAny_loadPart')
open PySem.MeetsSeq PySem.MeetsSeq2 PySem.MeetsSeq3 PySem.SeqRoads2 PySem.Calls
section
variable {P : Program} {w : World}
theorem zgI (l b : Addr) (items items2 : Array Value) (n n2 : Nat) (dd dd2 : Option Addr) (sl sl2 : Array (Option Value)) (hsz : items.size = items2.size) (k : Nat) :
 ∀ i : Nat, items.size - i = k → ∀ (A : Around) (R : Result → Shared → Prop) (s : Shared), s.heap.get? l = some { cls := .type "list", dict := dd, data := .seq items n, slots := sl } → s.heap.get? b = some { cls := .type "list", dict := dd2, data := .seq items2 n2, slots := sl2 } →
  (∀ j (h1 : j < items.size) (h2 : j < items2.size), EqIn P w A.in1 s items[j] items2[j]) → R (.ok (.ret (.bool false))) s →
  wpAny (model P w) A.in1 (Builtin.«list.__eq__.loop» ⟨[.ref l, .ref b, rawInt i, rawInt 3], []⟩) (fun fin s' => match fin with | .done f => R (.ok f) s' | .again c' => c'.quiet = true ∧ codeAny (model P w) A c' R s') (fun e s' => R (.error e) s') s := by
 induction k with
 | zero =>
  intro i hk A R s hl hb he h
  obtain ⟨hp, g, d, tk, os⟩ := s
  wp_walk using wpAny_loadPart' hl, wpAny_loadPart' hb
  have o1 : items[((i : Nat) : Int).toNat]? = none := by simp; omega
  have o2 : items2[((i : Nat) : Int).toNat]? = none := by simp; omega
  rw [o1, o2]
  wp_walk using wpAny_loadPart' hl, wpAny_loadPart' hb
  show R (.ok (.ret (.bool (items.size != items2.size)))) _
  rw [hsz]
  simpa using h
 | succ k ih =>
  intro i hk A R s hl hb he h
  obtain ⟨hp, g, d, tk, os⟩ := s
  wp_walk using wpAny_loadPart' hl, wpAny_loadPart' hb
  have lt1 : i < items.size := by omega
  have lt2 : i < items2.size := by omega
  have o1 : items[((i : Nat) : Int).toNat]? = some items[i] := by simp [lt1]
  have o2 : items2[((i : Nat) : Int).toNat]? = some items2[i] := by simp [lt2]
  have hc : ((i : Int) + 1) = ((i + 1 : Nat) : Int) := by push_cast; rfl
  rw [o1, o2]
  refine wpAny_bind (he i lt1 lt2 _ _ ?_)
  wp_walk
  rw [hc]
  exact ⟨plainId_quiet plain_eq_loop _, codeAny_builtin entry_eq_loop (by
   rw [Around.under_plainId plain_eq_loop _]
   exact ih (i + 1) (by omega) A R _ hl hb he h)⟩
theorem zlD (l b : Addr) (items items2 : Array Value) (n n2 : Nat) (dd dd2 : Option Addr) (sl sl2 : Array (Option Value)) (hsz : items.size = items2.size) (A : Around) (R : Result → Shared → Prop) (s : Shared)
 (hl : s.heap.get? l = some { cls := .type "list", dict := dd, data := .seq items n, slots := sl }) (hb : s.heap.get? b = some { cls := .type "list", dict := dd2, data := .seq items2 n2, slots := sl2 })
 (he : ∀ j (h1 : j < items.size) (h2 : j < items2.size), EqIn P w A.in1 s items[j] items2[j]) (h : R (.ok (.ret (.bool false))) s) :
 wpAny (model P w) A.in1 (Builtin.«list.__ne__» ⟨[.ref l, .ref b], []⟩) (fun fin s' => match fin with | .done f => R (.ok f) s' | .again c' => c'.quiet = true ∧ codeAny (model P w) A c' R s') (fun e s' => R (.error e) s') s := by
 obtain ⟨hp, g, d, tk, os⟩ := s
 have f3 := AutoSeq1.sub_list_list
 have hne : ¬ (items.size != items2.size) = true := by simp [hsz]
 wp_walk using wpAny_loadPart' hl, wpAny_loadPart' hb
 exact ⟨plainId_quiet plain_eq_loop _, codeAny_builtin entry_eq_loop (by
  rw [Around.under_plainId plain_eq_loop _]
  exact zgI l b items items2 n n2 dd dd2 sl sl2 hsz _ 0 rfl A R _ hl hb he h)⟩
theorem zkA {l b : Addr} {items items2 : Array Value} {A : Around} {s : Shared} {E : Value → Shared → Prop} {Q : Value → Shared → Prop} (hl : s.heap.IsList l items) (hb : s.heap.IsList b items2) (hsz : items.size = items2.size) (hu : A.units < cLine)
 (he : ∀ j (h1 : j < items.size) (h2 : j < items2.size), EqIn P w A.in1 s items[j] items2[j]) (h : Q (.bool false) s) : wpAny (model P w) A (richCompare .NotEq (.ref l) (.ref b)) Q E s := by
 obtain ⟨⟨c1, dd, data, sl⟩, ho, hc, n, hd⟩ := id hl
 obtain ⟨⟨c2, dd2, data2, sl2⟩, ho2, hc2, n2, hd2⟩ := id hb
 simp only at hc hd hc2 hd2
 subst hc hd hc2 hd2
 refine wpAny_richCompare_same_room (op := .NotEq) ⟨_, ho, rfl⟩ ⟨_, ho2, rfl⟩ F.slot_list_ne ?_ hu
 refine wpAny_call (codeAny_call_builtin F.slot_list_ne.plain F.entry_list_ne (F.slot_list_ne.check _ _ _ _ _ _ _ _ ⟨_, ho, rfl⟩ (F.args_list_ne_2 _ _) ?_))
 exact zlD l b items items2 n n2 dd dd2 sl sl2 hsz A (wants (fun v s' => v ≠ .notImplemented ∧ Q v s') E) s ho ho2 he (show Value.bool false ≠ Value.notImplemented ∧ Q (.bool false) s from ⟨(fun x => nomatch x), h⟩)
end
section
variable {P : Program} {w : World} {κ : Type} [DecidableEq κ] {knd : KeyKind P w κ} {A : Around} {E : Value → Shared → Prop} {s : Shared}
end
end L2
namespace L2
open PySem PySem.Spec PyProof.Rows
section
variable {X : Cx}
end
section
variable {X : Cx} {pins : List (Addr × Obj)} {σ : St} {H : Hp} {s : Shared}
end
section
variable {X : Cx}
end
open PySem.Builtin PySem.Builtin.Str
section
variable {X : Cx}
theorem zfg : ∀ l : List (Str × Tok), Vals ((l.map (·.1)).map V.str) (strValues l)
 | [] => .nil
 | p :: l => .cons ⟨p.2, rfl⟩ (zfg l)
def zln : V → List V → Hp → VK → Prop := fun x vs H Q => ∃ (y z : Str), x = .str y ∧ vs = [.str z] ∧ (z.length == 0) = false ∧ y.length ≤ 100000 ∧ ∀ p, H p = none → Q (.ref p) (upd H p (.lst ((Txt.split y z).map V.str)))
theorem zjH : MtM X "str.split" zln := by
 intro pins s σ H x vs v us Q I rx rv h
 obtain ⟨y, z, rfl, rfl, hz, hl, q⟩ := h
 obtain ⟨t, rfl⟩ := (show ∃ t, v = Value.str y t from rx)
 obtain ⟨u0, rfl, ru⟩ := rv.one
 obtain ⟨u, rfl⟩ := (show ∃ t, u0 = Value.str z t from ru)
 have hsz : (100004 : Nat) ≤ sizeLine := by decide
 have hn : (partsBetween y (occurrences y z 0 y.length (y.length + 1)) z.length).length ≤ sizeLine := by
  have e1 := StrLaws.occ_length_le y z 0 y.length (y.length + 1)
  rw [length_partsBetween]; omega
 have fin : ∀ (l : List (Str × Tok)) (k : Nat), l.map (·.1) = Txt.split y z → l.length ≤ sizeLine → EP X pins σ Q (.ref s.heap.objs.size) { s with heap := s.heap.push { cls := .type "list", data := .seq (strValues l).toArray }, toks := k } := fun l k e hl' =>
  ⟨.ref s.heap.objs.size, _, I.lnew (ys := (Txt.split y z).map V.str) (its := strValues l) (by rw [← e]; exact zfg l) (by rw [List.length_map, ← e, List.length_map]; exact hl'), rfl, q _ I.fresh⟩
 cases h1 : (decide (y.length < z.length) || decide (strKind y < strKind z))
 · cases hf : (occurrences y z 0 y.length (y.length + 1)).isEmpty
   · refine call_meets F.slot_str_split (typeIs_str _ _ _) F.entry_str_split (F.args_str_split_2 _ _) (meets_str_split_sep y z t u h1 hz hf (by omega) hn) ?_
     show wants (EP X pins σ Q) X.xe _ { s with toks := _, heap := s.heap.push { cls := .type "list", data := .seq (strsFrom s.toks (partsBetween y (occurrences y z 0 y.length (y.length + 1)) z.length)).toArray } }
     rw [strsFrom_eq]
     refine fin (numbered s.toks _) _ ((numbered_texts _ _).trans ((if_neg (ne_true_of_eq_false h1)).trans (if_neg (ne_true_of_eq_false hf))).symm) ?_
     have := congrArg List.length (numbered_texts s.toks (partsBetween y (occurrences y z 0 y.length (y.length + 1)) z.length))
     rw [List.length_map] at this
     omega
   · exact call_meets F.slot_str_split (typeIs_str _ _ _) F.entry_str_split (F.args_str_split_2 _ _) (meets_str_split_not_found y z t u h1 hz hf)
      (fin [(y, t)] s.toks ((if_neg (ne_true_of_eq_false h1)).trans (if_pos hf)).symm (by show 1 ≤ sizeLine; decide))
 · exact call_meets F.slot_str_split (typeIs_str _ _ _) F.entry_str_split (F.args_str_split_2 _ _) (meets_str_split_cannot_occur y z t u h1)
    (fin [(y, t)] s.toks (if_pos h1).symm (by show 1 ≤ sizeLine; decide))
def zmj : V → List V → Hp → VK → Prop := fun x vs H Q => ∃ (y z : Str), x = .str y ∧ vs = [.str z] ∧ (z.length == 0) = false ∧ y.length ≤ 100000 ∧ ∀ p, H p = none → Q (.ref p) (upd H p (.tup [.str (Txt.partition y z).1, .str (Txt.partition y z).2.1, .str (Txt.partition y z).2.2]))
theorem zck : MtM X "str.partition" zmj := by
 intro pins s σ H x vs v us Q I rx rv h
 obtain ⟨y, z, rfl, rfl, hz, hl, q⟩ := h
 obtain ⟨t, rfl⟩ := (show ∃ t, v = Value.str y t from rx)
 obtain ⟨u0, rfl, ru⟩ := rv.one
 obtain ⟨u, rfl⟩ := (show ∃ t, u0 = Value.str z t from ru)
 have hsz : (100004 : Nat) ≤ sizeLine := by decide
 refine call_meets F.slot_str_partition (typeIs_str _ _ _) F.entry_str_partition (F.args_str_partition_2 _ _) (meets_str_partition y z t u hz (by omega)) ?_
 have fin : ∀ (a b c : Tok) (k : Nat), EP X pins σ Q (.ref s.heap.objs.size) { s with heap := s.heap.push { cls := .type "tuple", data := .seq [.str (Txt.partition y z).1 a, .str (Txt.partition y z).2.1 b, .str (Txt.partition y z).2.2 c].toArray }, toks := k } := fun a b c k => by
  refine ⟨.ref s.heap.objs.size, _, I.laid (o := .tup [.str (Txt.partition y z).1, .str (Txt.partition y z).2.1, .str (Txt.partition y z).2.2]) (fun _ _ e => Heap.get?_push_of_some _ e) (Nat.le_refl _) ?_, rfl, q _ I.fresh⟩
  exact ⟨(by show 3 ≤ sizeLine; decide), _, .cons ⟨a, rfl⟩ (.cons ⟨b, rfl⟩ (.cons ⟨c, rfl⟩ .nil)), _, Heap.get?_push_size _ rfl, rfl, rfl, 0, rfl⟩
 unfold Txt.partition at fin
 revert fin
 cases occurrences y z 0 y.length 1 with
 | nil => intro fin; exact fin _ _ _ _
 | cons i r => intro fin; exact fin _ _ _ _
def zkB : V → List V → Hp → VK → Prop := fun x vs H Q => ∃ (y z : Str), x = .str y ∧ vs = [.str z] ∧ Q (.bl (decide (0 + z.length ≤ y.length) && subAt y z 0)) H
theorem ze4 : MtM X "str.startswith" zkB := by
 intro pins s σ H x vs v us Q I rx rv h
 obtain ⟨y, z, rfl, rfl, q⟩ := h
 obtain ⟨t, rfl⟩ := (show ∃ t, v = Value.str y t from rx)
 obtain ⟨u0, rfl, ru⟩ := rv.one
 obtain ⟨u, rfl⟩ := (show ∃ t, u0 = Value.str z t from ru)
 exact call_gives F.slot_str_startswith (typeIs_str _ _ _) F.entry_str_startswith (F.args_str_startswith_2 _ _) (gives_str_startswith y z t u) ⟨.bl _, H, I, rfl, q⟩
theorem zjh : zdg X (.type "int") (fun xs H Q => ∃ (x : Str) (n : Int), xs = [.str x] ∧ x.length ≤ 640 ∧ PySem.intText? x = some n ∧ Q (.int n) H) := by
 intro pins s σ H xs us Q I r h
 obtain ⟨x, n, rfl, hl, hn, q⟩ := h
 obtain ⟨u, rfl, ru⟩ := zc3 r
 obtain ⟨t, rfl⟩ := (show ∃ t, u = Value.str x t from ru)
 exact PySem.W.KIN.call_text hn hl ⟨.int n, H, I.tok _, ⟨_, rfl⟩, q⟩
theorem zbD (a b : Str) : (a ++ b).length = a.length + b.length := by
 show (a.cps ++ b.cps).size = a.cps.size + b.cps.size
 exact Array.size_append
abbrev TJ := St → Hp → Str → (Str → Hp → Prop) → Prop
def PJ (X : Cx) (es : List Expr) (t : TJ) : Prop := ∀ (pins : List (Addr × Obj)) (s : Shared) (σ : St) (H : Hp) (acc : Str) (Q : Str → Hp → Prop), Inv X pins σ H s → t σ H acc Q →
 Joins (model X.prog X.w) X.A X.xe (evalEach es X.env) acc (fun out s1 => ∃ H', Inv X pins σ H' s1 ∧ Q out H') s
def jNil : TJ := fun _ H acc Q => Q acc H
def jC (b : Str) (t : TJ) : TJ := fun σ H acc Q => (acc ++ b).length ≤ sizeLine ∧ t σ H (acc ++ b) Q
def jS (te : TE) (t : TJ) : TJ := fun σ H acc Q => te σ H fun v H1 => ∃ x : Str, v = .str x ∧ x.length ≤ sizeLine ∧ (acc ++ x).length ≤ sizeLine ∧ t σ H1 (acc ++ x) Q
def jI (te : TE) (t : TJ) : TJ := fun σ H acc Q => te σ H fun v H1 => ∃ n : Int, v = .int n ∧ n.natAbs.log2 < 1920 ∧ (acc ++ Str.ofString (toString n)).length ≤ sizeLine ∧ t σ H1 (acc ++ Str.ofString (toString n)) Q
variable {e : Expr} {es : List Expr} {te : TE} {t : TJ} {p pos : Pos}
theorem zj5 : PJ X [] jNil := fun pins s σ H acc Q I h => ⟨H, I, h⟩
theorem pj_c {b : Str} {j} (ht : PJ X es t) : PJ X (.Constant (.str b) j p :: es) (jC b t) := fun pins s σ H acc Q I h =>
 Calls.Constant_str ⟨b, _, rfl, h.1, ht pins _ σ H _ Q (I.tok _) h.2⟩
theorem pj_s (he : PE X e te) (ht : PJ X es t) : PJ X (.FormattedValue e (-1) none p :: es) (jS te t) := by
 intro pins s σ H acc Q I h
 refine wpAny_FormattedValue_plain ?_
 refine thn (he pins _ σ H _ I h) fun u s1 ⟨v, H1, I1, r, x, hv, hx, h1, q⟩ => ?_
 subst hv
 obtain ⟨tk, rfl⟩ := r
 exact wpAny_formatField_str ⟨x, _, rfl, h1, ht pins _ σ H1 _ Q I1 q⟩ ⟨x, _, rfl, h1, ht pins _ σ H1 _ Q (I1.tok _) q⟩ hx
theorem pj_i (he : PE X e te) (ht : PJ X es t) : PJ X (.FormattedValue e (-1) none p :: es) (jI te t) := by
 intro pins s σ H acc Q I h
 refine wpAny_FormattedValue_plain ?_
 refine thn (he pins _ σ H _ I h) fun u s1 ⟨v, H1, I1, r, n, hv, hd, h1, q⟩ => ?_
 subst hv
 obtain ⟨tk, rfl⟩ := r
 exact wpAny_formatField_int hd ⟨_, _, rfl, h1, ht pins _ σ H1 _ Q (I1.tok _) q⟩
def zme (t : TJ) : TE := fun σ H Q => t σ H Str.empty fun out H' => out.length ≤ sizeLine ∧ Q (.str out) H'
theorem zir {A : Around} {M : Model} {E : Value → Shared → Prop} : ∀ (l : List (Sem Value)) {acc : Str} {Q Q' : Str → Shared → Prop} {s : Shared}, (∀ o s, Q o s → Q' o s) → Joins M A E l acc Q s → Joins M A E l acc Q' s
 | [], acc, Q, Q', s, h, q => h _ _ q
 | x :: l, acc, Q, Q', s, h, q => wpAny_mono q (fun v s1 ⟨y, t, e1, e2, r⟩ => ⟨y, t, e1, e2, zir l h r⟩) fun _ _ z => z
theorem ziu {e1 e2 : Expr} (ht : PJ X (e1 :: e2 :: es) t) : PE X (.JoinedStr (e1 :: e2 :: es) pos) (zme t) := by
 intro pins s σ H Q I h
 refine wpAny_JoinedStr (zir _ (fun o s1 ⟨H', I', hl, q⟩ => ⟨hl, ?_⟩) (ht pins s σ H Str.empty _ I h))
 exact ⟨.str o, H', I'.tok _, ⟨_, rfl⟩, q⟩
end
end L2
namespace L2
open PySem PySem.Spec PyProof.Rows
open PySem.Builtin PySem.Builtin.Str PySem.NumText
def sg (x : Str) : List Nat := x.cps.toList
theorem zdi {x y : Str} (h : sg x = sg y) : x = y := zh5 h
theorem zcd (x y : Str) : sg (x ++ y) = sg x ++ sg y := by
 show (x.cps ++ y.cps).toList = _
 rw [Array.toList_append]
 rfl
theorem zaF (x : Str) : x.length = (sg x).length := by unfold sg; simp [Str.length]
def jn (sep : List Nat) : List (List Nat) → List Nat
 | [] => []
 | [w] => w
 | w :: v :: r => w ++ sep ++ jn sep (v :: r)
theorem zge (sep : Str) : ∀ ws : List Str, sg (Str.join sep ws) = jn (sg sep) (ws.map sg)
 | [] => rfl
 | [w] => rfl
 | w :: v :: r => by
  have ih := zge sep (v :: r)
  show sg (w ++ sep ++ Str.join sep (v :: r)) = _
  rw [zcd, zcd, ih]
  rfl
theorem zcp (sep : Str) (ws : List Str) : sg (Txt.join sep ws) = jn (sg sep) (ws.map sg) := by
 show sg (glued sep ws) = _
 rw [StrLaws.glued_eq_join, zge]
theorem ziV {c : Nat} : ∀ {a b u v : List Nat}, c ∉ a → c ∉ b → a ++ c :: u = b ++ c :: v → a = b ∧ u = v
 | [], [], u, v, _, _, h => ⟨rfl, by simpa using h⟩
 | [], y :: b, u, v, _, hb, h => by
  simp at h
  exact absurd h.1 (fun z => hb (by rw [z]; exact List.mem_cons_self))
 | x :: a, [], u, v, ha, _, h => by
  simp at h
  exact absurd h.1 (fun z => ha (by rw [z]; exact List.mem_cons_self))
 | x :: a, y :: b, u, v, ha, hb, h => by
  rw [List.cons_append, List.cons_append] at h
  injection h with h1 h2
  obtain ⟨e1, e2⟩ := ziV (fun z => ha (List.mem_cons_of_mem _ z)) (fun z => hb (List.mem_cons_of_mem _ z)) h2
  exact ⟨by rw [h1, e1], e2⟩
theorem zkd {c : Nat} {a b u : List Nat} (hb : c ∉ b) (h : b = a ++ c :: u) : False := hb (by rw [h]; exact List.mem_append_right _ List.mem_cons_self)
theorem zke {c : Nat} : ∀ (ws vs : List (List Nat)), ws ≠ [] → vs ≠ [] → (∀ w ∈ ws, c ∉ w) → (∀ w ∈ vs, c ∉ w) → jn [c] ws = jn [c] vs → ws = vs
 | [], _, h, _, _, _, _ => absurd rfl h
 | _, [], _, h, _, _, _ => absurd rfl h
 | [w], [v], _, _, _, _, h => by rw [show w = v from h]
 | [w], v :: v2 :: r, _, _, hw, _, h => by
  have h' : w = v ++ [c] ++ jn [c] (v2 :: r) := h
  rw [List.append_assoc] at h'
  exact (zkd (hw w List.mem_cons_self) h').elim
 | w :: w2 :: r, [v], _, _, _, hv, h => by
  have h' : w ++ [c] ++ jn [c] (w2 :: r) = v := h
  rw [List.append_assoc] at h'
  exact (zkd (hv v List.mem_cons_self) h'.symm).elim
 | w :: w2 :: r, v :: v2 :: r', _, _, hw, hv, h => by
  have h' : w ++ [c] ++ jn [c] (w2 :: r) = v ++ [c] ++ jn [c] (v2 :: r') := h
  rw [List.append_assoc, List.append_assoc] at h'
  obtain ⟨e1, e2⟩ := ziV (hw w List.mem_cons_self) (hv v List.mem_cons_self) h'
  rw [e1, zke (w2 :: r) (v2 :: r') (by simp) (by simp) (fun x hx => hw x (List.mem_cons_of_mem _ hx)) (fun x hx => hv x (List.mem_cons_of_mem _ hx)) e2]
theorem zjs (x y : Str) : Txt.split x y ≠ [] := by
 unfold Txt.split
 split
 · simp
 · split
   · simp
   · rw [StrLaws.partsBetween_eq]
     obtain ⟨p, r, e⟩ := StrLaws.partsFrom_ne x y.length 0 (occurrences x y 0 x.length (x.length + 1))
     rw [e]
     simp
theorem zjt {c : Nat} {x : Str} {ws : List (List Nat)} (hne : ws ≠ []) (hw : ∀ w ∈ ws, c ∉ w) (hx : sg x = jn [c] ws) : (Txt.split x ⟨#[c]⟩).map sg = ws := by
 refine zke _ _ (by simpa using zjs x _) hne (fun w hw' => ?_) hw ?_
 · obtain ⟨p, hp, rfl⟩ := List.mem_map.mp hw'
   exact StrLaws.split_free x c p hp
 · have := zge ⟨#[c]⟩ (Txt.split x ⟨#[c]⟩)
   rw [StrLaws.join_split, hx] at this
   exact this.symm
theorem zki (x y : Str) (i : Nat) : StrLaws.At x y x.length i ↔ i + (sg y).length ≤ (sg x).length ∧ ((sg x).drop i).take (sg y).length = sg y := by
 unfold StrLaws.At
 rw [StrLaws.subAt_eq, zaF, zaF]
 constructor
 · rintro ⟨h1, h2⟩; exact ⟨h1, eq_of_beq h2⟩
 · rintro ⟨h1, h2⟩; exact ⟨h1, beq_iff_eq.mpr h2⟩
theorem zgs {x y : Str} {a b : List Nat} (hx : sg x = a ++ sg y ++ b) (hy : ∃ c r, sg y = c :: r ∧ c ∉ a) : sg (Txt.partition x y).1 = a ∧ (Txt.partition x y).2.1 = y ∧ sg (Txt.partition x y).2.2 = b := by
 obtain ⟨c, r, ey, ca⟩ := hy
 have h0 : StrLaws.At x y x.length a.length := by
  rw [zki, hx]
  refine ⟨by simp, ?_⟩
  rw [List.append_assoc, List.drop_left, List.take_left]
 rcases StrLaws.occ_head x y 1 (Nat.le_refl _) with ⟨_, hn⟩ | ⟨i, rr, e, hi, hk⟩
 · exact absurd h0 (hn _)
 · have ei : i = a.length := by
    rcases Nat.lt_trichotomy i a.length with h | h | h
    · exfalso
      rw [zki, hx, ey] at hi
      have h2 := hi.2
      have h3 : ((a ++ (c :: r) ++ b).drop i)[0]? = some c := by
       have := congrArg (·[0]?) h2
       simp at this
       simpa using this
      rw [List.getElem?_drop, List.append_assoc, List.getElem?_append_left (by omega)] at h3
      exact ca (List.mem_of_getElem? h3)
    · exact h
    · exact absurd h0 (hk _ h)
   subst ei
   unfold Txt.partition
   rw [e]
   refine ⟨?_, rfl, ?_⟩
   · show (strSub x 0 a.length).cps.toList = a
     rw [StrLaws.strSub_toList]
     show ((sg x).drop 0).take (a.length - 0) = a
     rw [hx, List.drop_zero, Nat.sub_zero, List.append_assoc, List.take_left]
   · show (strSub x (a.length + y.length) x.length).cps.toList = b
     rw [StrLaws.strSub_toList]
     show ((sg x).drop (a.length + y.length)).take (x.length - (a.length + y.length)) = b
     have e2 : (sg x).drop (a.length + y.length) = b := by
      rw [hx, zaF, ← List.length_append, List.drop_left]
     rw [e2, List.take_of_length_le]
     have h5 := congrArg List.length hx
     rw [List.length_append, List.length_append] at h5
     rw [zaF, zaF]
     omega
open PySem.W.KIN in
theorem numN (m : Nat) : sg (Str.ofString (toString ((m : Nat) : Int))) = (Nat.toDigits 10 m).map Char.toNat := signs_num m
def numL (n : Int) : List Nat := sg (Str.ofString (toString n))
theorem zcA (m : Nat) : numL (m : Int) = (Nat.toDigits 10 m).map Char.toNat := numN m
theorem zcB (m : Nat) : ∀ c ∈ numL (m : Int), 48 ≤ c ∧ c ≤ 57 := by
 intro c hc
 rw [zcA] at hc
 obtain ⟨ch, hch, e⟩ := List.mem_map.mp hc
 rw [← e]
 exact digit_range (Nat.isDigit_of_mem_toDigits (by decide) (by decide) hch)
theorem ziD (m : Nat) : numL (m : Int) ≠ [] := by
 rw [zcA]
 intro e
 have h := toDigits_len_ge 10 m
 rw [List.map_eq_nil_iff.mp e] at h
 exact absurd h (by decide)
theorem zhe (m : Nat) : digitsVal (numL (m : Int)) = m := by rw [zcA]; exact PySem.W.KIN.val_back m
theorem zdC (m : Nat) (h : 0 < m) : numL (-(m : Int)) = 45 :: numL (m : Int) := by
 obtain ⟨k, rfl⟩ : ∃ k, m = k + 1 := ⟨m - 1, by omega⟩
 unfold numL sg
 rw [signs_ofString, signs_ofString]
 have e1 : toString (-((k + 1 : Nat) : Int)) = "-" ++ Nat.repr (k + 1) := rfl
 have e2 : toString (((k + 1 : Nat) : Int)) = Nat.repr (k + 1) := rfl
 rw [e1, e2, String.toList_append, List.map_append]
 rfl
theorem zk8 : ∀ (cs : List Nat), (∀ c ∈ cs, 48 ≤ c ∧ c ≤ 57) → digitsVal cs < 10 ^ cs.length := by
 have go : ∀ (n : Nat) (cs : List Nat), cs.length = n → (∀ c ∈ cs, 48 ≤ c ∧ c ≤ 57) → digitsVal cs < 10 ^ cs.length := by
  intro n
  induction n with
  | zero => intro cs h _; rw [List.length_eq_zero_iff.mp h]; decide
  | succ n ih =>
   intro cs hn h
   have hne : cs ≠ [] := fun z => by rw [z] at hn; cases hn
   obtain ⟨ds, c, rfl⟩ : ∃ ds c, cs = ds ++ [c] := ⟨cs.dropLast, cs.getLast hne, (List.dropLast_concat_getLast hne).symm⟩
   rw [digitsVal_snoc, List.length_append, List.length_singleton, Nat.pow_succ]
   have h1 := ih ds (by simpa using hn) fun d hd => h d (List.mem_append_left _ hd)
   have h2 := h c (List.mem_append_right _ List.mem_cons_self)
   omega
 exact fun cs => go _ cs rfl
theorem zjG {m : Nat} (h : 10 ^ 15 ≤ m) : 15 < (numL (m : Int)).length := by
 have h1 := zk8 (numL (m : Int)) (zcB m)
 rw [zhe] at h1
 rcases Nat.lt_or_ge 15 (numL (m : Int)).length with z | z
 · exact z
 · have := Nat.pow_le_pow_right (n := 10) (by decide) z
   omega
theorem zda {m k : Nat} (hk : 0 < k) (h : m < 10 ^ k) : (numL (m : Int)).length ≤ k := by
 have := toString_length_le (v := (m : Int)) (k := k) (by omega) hk (by exact_mod_cast h)
 unfold numL
 rw [← zaF]
 exact this
theorem zfB : ∀ m : Nat, 0 < m → ∃ c r, numL (m : Int) = c :: r ∧ c ≠ 48 := by
 intro m
 induction m using Nat.strongRecOn with
 | _ m ih =>
  intro hm
  by_cases h : m < 10
  · rw [zcA, Nat.toDigits_of_lt_base h]
    refine ⟨_, [], rfl, ?_⟩
    have e := PySem.W.KIN.digit_back m h
    omega
  · have hd : m % 10 < 10 := Nat.mod_lt m (by decide)
    have t : Nat.toDigits 10 (m / 10) ++ Nat.toDigits 10 (m % 10) = Nat.toDigits 10 (10 * (m / 10) + m % 10) := Nat.toDigits_append_toDigits (by decide) (by omega) hd
    rw [Nat.div_add_mod] at t
    obtain ⟨c, r, e, hc⟩ := ih (m / 10) (by omega) (by omega)
    rw [zcA] at e
    refine ⟨c, r ++ (Nat.toDigits 10 (m % 10)).map Char.toNat, ?_, hc⟩
    rw [zcA, ← t, List.map_append, e]
    rfl
theorem ziC : numL 0 = [48] := by decide
theorem zjF {m : Nat} {x : Str} (hx : sg x = numL (m : Int)) (hl : x.length ≤ 640) : PySem.intText? x = some (m : Int) := by
 have e := intText_digits (x := x) (by show ∀ c ∈ sg x, _; rw [hx]; exact zcB m) (by show sg x ≠ []; rw [hx]; exact ziD m) (by omega)
 rw [e]
 show some ((digitsVal (sg x) : Nat) : Int) = _
 rw [hx, zhe]
theorem zdb (n : Int) : ∀ c ∈ numL n, c = 45 ∨ (48 ≤ c ∧ c ≤ 57) := by
 rcases Int.lt_or_le n 0 with h | h
 · obtain ⟨m, rfl, hm⟩ : ∃ m : Nat, n = -(m : Int) ∧ 0 < m := ⟨n.natAbs, by omega, by omega⟩
   rw [zdC m hm]
   intro c hc
   rcases List.mem_cons.mp hc with e | e
   · exact .inl e
   · exact .inr (zcB m c e)
 · obtain ⟨m, rfl⟩ := Int.eq_ofNat_of_zero_le h
   exact fun c hc => .inr (zcB m c hc)
def endL : Option Int → List Nat
 | none => [42]
 | some n => numL n
theorem zgT {o : Option Int} {c : Nat} (h : c = 46 ∨ c = 58 ∨ c = 32) : c ∉ endL o := by
 cases o with
 | none => intro z; simp [endL] at z; omega
 | some n => intro z; have := zdb n c z; omega
def wpL (p : WP) : List Nat := sg p.1 ++ [58] ++ (endL p.2.1 ++ [46, 46] ++ endL p.2.2)
def ppL (p : PP) : List Nat := sg p.1 ++ [58] ++ numL p.2
theorem zdF {x : Str} (h : FieldOk x) {c : Nat} (hc : c < 97) : c ∉ sg x := fun z => by
 have := h.all c z
 unfold zbz at this
 simp at this
 omega
theorem zk7 {p : WP} (h : FieldOk p.1) : 32 ∉ wpL p := by
 unfold wpL
 simp only [List.mem_append, List.mem_cons, List.not_mem_nil, or_false]
 rintro ((z | z) | ((z | z | z) | z))
 · exact zdF h (by decide) z
 · cases z
 · exact zgT (.inr (.inr rfl)) z
 · cases z
 · cases z
 · exact zgT (.inr (.inr rfl)) z
theorem zlp {p : PP} (h : FieldOk p.1) : 32 ∉ ppL p := by
 unfold ppL
 simp only [List.mem_append, List.mem_cons, List.not_mem_nil, or_false]
 rintro ((z | z) | z)
 · exact zdF h (by decide) z
 · cases z
 · have := zdb p.2 32 z; omega
def zez (w : List WP) : List Nat := if w = [] then [45] else jn [32] (w.map wpL)
def zcF (w : List PP) : List Nat := if w = [] then [45] else jn [32] (w.map ppL)
end L2
namespace L2
open PySem PySem.Spec PyProof.Rows
open PySem.Builtin PySem.Builtin.Str PySem.NumText
section
variable {X : Cx}
theorem zkf {α β : Type} {f : α → Option β} {g : α → β} : ∀ {l : List α}, (∀ i ∈ l, f i = some (g i)) → l.filterMap f = l.map g
 | [], _ => rfl
 | a :: l, h => by rw [List.filterMap_cons, h a List.mem_cons_self, List.map_cons, zkf fun i hi => h i (List.mem_cons_of_mem _ hi)]
theorem zkp (n : Nat) (h : 1 ≤ n) : Builtin.Str.strSliceIndices (some 1) none 1 n = (List.range (n - 1)).map (· + 1) := by
 unfold Builtin.Str.strSliceIndices sliceRange
 simp only [show (1 : Int) > 0 by decide, if_true]
 have e1 : max 0 (min (if (1 : Int) < 0 then 1 + (n : Int) else 1) (n : Int)) = 1 := by rw [if_neg (by decide)]; omega
 rw [e1]
 have e2 : (if (1 : Int) < (n : Int) then ((n : Int) - 1 + 1 - 1) / 1 else 0).toNat = n - 1 := by split <;> omega
 rw [e2]
 refine List.map_congr_left fun k _ => ?_
 omega
def zkC : V → Option Int → Option Int → Hp → VK → Prop := fun x lo hi H Q => ∃ y : Str, x = .str y ∧ lo = some 1 ∧ hi = none ∧ 1 ≤ y.length ∧ y.length ≤ 100000 ∧ ∀ z : Str, sg z = (sg y).drop 1 → Q (.str z) H
theorem zjv : SlR X zkC := by
 intro pins s σ H x v vl vu lo hi sl Q I rx hs pl pu h
 obtain ⟨y, rfl, rfl, rfl, h1, hl, q⟩ := h
 obtain ⟨t, rfl⟩ := (show ∃ t, v = Value.str y t from rx)
 obtain ⟨l, el, e1⟩ : ∃ l : Option (Int × Tok), vl = partValue l ∧ l.map (·.1) = some 1 := by
  cases pl with
  | int i t => exact ⟨some (1, t), rfl, rfl⟩
 obtain ⟨u, eu, e2⟩ : ∃ l : Option (Int × Tok), vu = partValue l ∧ l.map (·.1) = none := by
  cases pu with
  | none => exact ⟨none, rfl, rfl⟩
 have hS : s.heap.IsSlice sl l u none := by
  obtain ⟨o, h1, h2, h3⟩ := hs
  exact ⟨o, h1, h2, by rw [h3, el, eu]; rfl⟩
 have pk : slicePicked y l u none = (List.range (y.length - 1)).map (· + 1) := by unfold slicePicked; rw [e1, e2]; exact zkp _ h1
 have hsz : (100000 : Nat) ≤ sizeLine := by decide
 refine ⟨"str", _, F.slot_str_getitem.lookup, typeIs_str s y t, ?_⟩
 refine getItem_meets (typeIs_str s y t) (by decide) F.slot_str_getitem F.entry_str_getitem (F.args_str_getitem_2 _ _) (meets_str_getitem_slice y t sl l u none rfl) ⟨hS, ?_⟩
 unfold sliceMade
 rw [pk]
 have hl2 : y.length = (sg y).length := zaF y
 have key : ((List.range (y.length - 1)).map (· + 1)).filterMap (y.cps[·]?) = (sg y).drop 1 := by
  rw [List.filterMap_map]
  rw [zkf (g := fun i => (sg y).getD (i + 1) 0)]
  rotate_left
  · intro i hi
    have hi := List.mem_range.mp hi
    show y.cps[i + 1]? = _
    have h5 : i + 1 < (sg y).length := by omega
    have h6 : y.cps[i + 1]? = (sg y)[i + 1]? := by unfold sg; simp
    rw [h6, List.getElem?_eq_getElem h5, List.getD_eq_getElem?_getD, List.getElem?_eq_getElem h5]
    rfl
  apply List.ext_getElem
  · simp; omega
  · intro i h5 h6
    simp at h5
    simp only [List.getElem_map, List.getElem_range, List.getElem_drop]
    rw [List.getD_eq_getElem?_getD, List.getElem?_eq_getElem (by omega)]
    simp [Nat.add_comm]
 split
 · rename_i hc
   simp at hc
   omega
 · have hz : (⟨(((List.range (y.length - 1)).map (· + 1)).filterMap (y.cps[·]?)).toArray⟩ : Str).length ≤ sizeLine := by
    rw [zaF]
    show (List.filterMap _ _).toArray.toList.length ≤ _
    rw [List.toList_toArray, key, List.length_drop]
    omega
   refine ⟨hz, ⟨.str _, H, I.tok _, ⟨_, rfl⟩, q _ ?_⟩⟩
   show (List.filterMap _ _).toArray.toList = _
   rw [List.toList_toArray, key]
end
end L2
namespace L2
open PySem PySem.Spec PyProof.Rows
def zma (K : PySem.W.Frag) (C0 : Addr) (tb : (St → Value → Hp → Prop) → TS) (ts : TS) : TS := fun D σ H =>
 tb (fun σ' cls H' => ∃ C, cls = .ref C ∧ XSub K C C0 ∧ ∀ a, H' a = none → ts D σ' (upd H' a (isX a C))) D σ H
section
variable {X : Cx} {C0 : Addr} {x : Str} {body suite : List Stmt} {b₀ : Stmt} {np hpos pos : Pos} {tb : (St → Value → Hp → Prop) → TS} {ts : TS}
theorem zkE (hex : X.ex = []) (hst : X.stack = X.env :: X.outer) (hf : X.env.frame = some X.env.locals) (hg : Gl X x) (hm : X.mg x = some (.ref C0)) (O : XOk X.K C0)
 (hb : ∀ RR pins, PSs (X.tryX RR pins) body (tb RR)) (hs : ∀ a, PSs (X.inX a) (b₀ :: suite) ts) (hdb : (x == ("__debug__" : Str)) = false := by decide) :
 PS X (.Try body [.ExceptHandler (some (.Name x np)) none (b₀ :: suite) hpos] [] [] pos) (zma X.K C0 tb ts) := by
 intro pins s σ H D I h
 refine wpAny_Try_except ?_
 refine wpAny_mono (hb _ pins [] s σ H D (I.tryX _) h) (fun f s1 h1 => ?_) fun e s1 h1 => ?_
 · have h2 := h1.outTry
   cases f with
   | next => obtain ⟨σ', H', I', q⟩ := h2; exact wpAny_execs_nil ⟨σ', H', I', q⟩
   | brk => exact h2
   | cont => exact h2
   | ret u => exact h2
 · obtain ⟨a, C, H0, s0, σ', H', rfl, I0, fl, C', hC', ⟨nm, q, N, bs, bm, hdct, sn, sub, ab, col, dd, k0, k1, k2, k3, k5, lC, hsub⟩, hq⟩ := h1
   obtain rfl : C = C' := by cases hC'; rfl
   obtain ⟨nm0, q0, N0, bs0, bm0, hdct0, sn0, sub0, ab0, col0, dd0, j0, j1, j2, j3, j5, lC0, O0⟩ := O
   obtain ⟨B, t, fb⟩ := fl.ex
   have hfr : X.A.frames = some (X.env :: X.outer) := by rw [I.ok.frames, hst]
   have fl1 := fb.fl
   rw [hst] at fl1
   refine wpAny_looks_onW hfr hf fl1 fun h4 held up4 => ?_
   refine wpAny_landsW held fun h5 fl5 up5 => ?_
   have fl5' : Heap.FlyingW B X.stack a (.ref C) (.ref t) h5 := by rw [hst]; exact fl5
   have f5 := fl.go I0.stack fb fl5' (up4.trans up5)
   have I5 := f5.inv I0
   have fb5 : FlyB X.base X.stack s0 a C H' B t h5 := ⟨fl5', fb.bs, fb.tr, fb.old⟩
   refine wpAny_handleBy_cons (codeAny_handlers_test ?_) (by intro z; cases z)
   refine zd5 (X := X.inX a) (I5.inX a) hg hm ?_ hdb
   obtain ⟨oe, ws, hoe, hoec, _⟩ := fl5.first
   have KX := I5.kIn
   refine zhY (h := h5) (KX _ _ lC) (KX _ _ lC0) O0 hsub hoe hoec ?_
   refine codeAny_handlers_suite ?_
   refine lands_againW (s := { s1 with heap := h5 }) fl5' fun h6 fl6 up6 => ?_
   have f6 := f5.go I0.stack fb5 fl6 up6
   have I6 := f6.inv I0
   obtain ⟨oe6, ws6, hoe6, hoec6, _⟩ := fl6.first
   have fr := f6.fresh I0.stack I0.stkFree
   have hl0 : a ≠ X.env.locals := fun z => by
    obtain ⟨m, ⟨o, es, ep, ho, _⟩, _⟩ := I0.loc
    rw [← z, fr] at ho
    cases ho
   have hc0 : ∀ y c, X.env.cells.lookup y = some c → c ≠ a := fun y c e z => by
    obtain ⟨v, o, ho, _⟩ := I0.cell y c e
    rw [z, fr] at ho
    cases ho
   have hp0 : ∀ p ∈ X.pn ++ pins, p.1 ≠ a := fun p hp z => by
    have := (I0.pin p hp).1
    rw [z, fr] at this
    cases this
   have hs0 : X.s₀.heap.get? a = none := by
    cases z : X.s₀.heap.get? a with
    | none => rfl
    | some o =>
     obtain ⟨o', e'⟩ := I0.base.there a o z (by rw [hex]; simp)
     rw [fr] at e'
     cases e'
   have I7 := I6.track (o := isX a C) f6.free hs0 hl0 hc0 hp0 ⟨⟨oe6, hoe6, hoec6⟩, ⟨oe6, hoe6⟩, fun h1 h2 ⟨o, e1, e2⟩ k => ⟨o, k o e1, e2⟩⟩
   refine wpAny_mono (hs a pins _ _ _ _ (I7.inX a) (hq a f6.free)) (fun f s8 h8 => ?_) fun _ _ z => z.elim
   cases f with
   | next => obtain ⟨σ2, H2, I9, q9⟩ := h8; exact ⟨_, _, I9.outX I.ok, q9⟩
   | brk => obtain ⟨σ2, H2, I9, q9⟩ := h8; exact ⟨_, _, I9.outX I.ok, q9⟩
   | cont => obtain ⟨σ2, H2, I9, q9⟩ := h8; exact ⟨_, _, I9.outX I.ok, q9⟩
   | ret u => obtain ⟨v, σ2, H2, I9, r9, q9⟩ := h8; exact ⟨v, _, _, I9.outX I.ok, r9, q9⟩
end
section
variable {M : Model} {A : Around} {E : Value → Shared → Prop} {s : Shared}
theorem zlS {base : Heap} {l : List Env} {e : Addr} {cls a0 fl : Value} {fr : Option Addr} {Q : Unit → Shared → Prop}
 (hkb : base.StaysIn s.heap) (hl : s.heap.FunFrames base l) (ht : s.heap.TracedAtW base e cls a0 fl)
 (h : ∀ h', base.StaysIn h' → h'.FunFrames base l → h'.TracedAtW base e cls a0 (fr.elim Value.none fun f => rawInt f) → (∀ b o, s.heap.get? b = some o → (∀ vs, o.data ≠ .fields vs) → h'.get? b = some o) → Q () { s with heap := h' }) :
 wpAny M A (setFlight (.ref e) fr) Q E s := by
 obtain ⟨oe, vs, T, oT, ts, he, hcls, hd, h1, hnT, hTe, hT, hdT, h3⟩ := ht
 have hsz3 : 3 < ts.size := (Array.getElem?_eq_some_iff.mp h3).1
 have other : ∀ b, b ≠ T → (s.heap.update T (Obj.mapFields (·.setIfInBounds 3 (fr.elim Value.none fun f => rawInt f)))).get? b = s.heap.get? b :=
  fun b hb => Heap.get?_update_other _ _ (Ne.symm hb)
 have noRecord : ∀ b o, s.heap.get? b = some o → (∀ vs, o.data ≠ .fields vs) → b ≠ T := fun b o hb hnf q => by
  rw [q, hT] at hb; injection hb with hb; subst hb; exact hnf ts hdT
 unfold setFlight
 refine wpAny_bind (wpAny_field he hd h1 ?_)
 rw [if_pos (show (Value.ref T != Value.none) = true from by simp)]
 refine wpAny_setField hT hdT hsz3 (h _ (fun b o hbo => (other b fun q => by rw [q, hnT] at hbo; cases hbo).trans (hkb b o hbo))
  (hl.of_keeps fun b o hb hnf => ⟨o, (other b (noRecord b o hb hnf)).trans hb, rfl⟩) ?_ fun b o hb hnf => (other b (noRecord b o hb hnf)).trans hb)
 exact ⟨oe, vs, T, _, _, (other e (Ne.symm hTe)).trans he, hcls, hd, h1, hnT, hTe, Heap.get?_update_self _ hT (Obj.isFreed_of_fields (Obj.data_mapFields hdT _)), Obj.data_mapFields hdT _, by simp [hsz3]⟩
theorem zkT {α : Type} {base : Heap} {l : List Env} {e : Addr} {cls a0 fl : Value} {what : String} {cenv : Env} {Q : α → Shared → Prop}
 (hkb : base.StaysIn s.heap) (hl : s.heap.FunFrames base l) (ht : s.heap.TracedAtW base e cls a0 fl)
 (h : ∀ h' fl', base.StaysIn h' → h'.FunFrames base l → h'.TracedAtW base e cls a0 fl' → (∀ b o, s.heap.get? b = some o → (∀ vs, o.data ≠ .fields vs) → h'.get? b = some o) → E (.ref e) { s with heap := h' }) :
 wpAny M A (PySem.passOn what (.ref e) cenv : Sem α) Q E s := by
 have ht0 := ht
 obtain ⟨oe, vs, T, oT, ts, he, hcls, hd, h1, hnT, hTe, hT, hdT, h3⟩ := ht
 unfold PySem.passOn
 refine wpAny_bind (wpAny_field he hd h1 ?_)
 rw [if_neg (show ¬ ((Value.ref T == Value.none) = true) from by simp)]
 refine wpAny_bind (zlS hkb hl ht0 fun h' k1 k2 k3 k4 => ?_)
 exact wpAny_throw (h h' _ k1 k2 k3 k4)
theorem zjP {base : Heap} {env : Env} {outer : List Env} {L e : Addr} {cls a0 fl : Value} {Q : Unit → Shared → Prop}
 (hfr : A.frames = some (env :: outer)) (hl : s.heap.FunFrames base (env :: outer)) (hf : env.frame = some L) (ht : s.heap.TracedAtW base e cls a0 fl) (hkb : base.StaysIn s.heap) (hen : base.get? e = none)
 (h : ∀ h', Heap.LeftW base (env :: outer) e cls a0 s.heap h' → Q () { s with heap := h' }) : wpAny M A (leaving env (.ref e)) Q E s := by
 by_cases hL : fl = rawInt L
 · subst hL
   unfold leaving
   refine wpAny_bind (wpAny_noteFrame_againW hf ht ?_)
   exact wpAny_setFlight_noneW hkb hl ht fun h' k1 k2 k3 k4 => h h' ⟨k1, k2, k3, fun b o hb hn => ⟨o.slots, k4 b o hb hn⟩⟩
 obtain ⟨oe, vs, T, oT, ts, he, ⟨hcls, h0⟩, hd, h1, hnT, hTe, hT, hdT, h3⟩ := ht
 subst hcls
 unfold leaving noteFrame
 simp only [hf]
 refine wpAny_bind (wpAny_bind (wpAny_field he hd h1 ?_))
 rw [if_pos (show (Value.ref T != Value.none) = true from by simp)]
 refine wpAny_bind (wpAny_field hT hdT h3 ?_)
 rw [if_neg (show ¬ ((fl == rawInt L) = true) from fun q => hL (eq_of_beq q))]
 refine wpAny_bind (wpAny_setField hT hdT (Array.getElem?_eq_some_iff.mp h3).1 ?_)
 have other : ∀ b, b ≠ T → (s.heap.update T (Obj.mapFields (·.setIfInBounds 3 Value.none))).get? b = s.heap.get? b := fun b hb => Heap.get?_update_other _ _ (Ne.symm hb)
 have noRecord : ∀ b o, s.heap.get? b = some o → (∀ vs, o.data ≠ .fields vs) → b ≠ T := fun b o hb hnf q => by
  rw [q, hT] at hb; injection hb with hb; subst hb; exact hnf ts hdT
 refine wpAny_newEntryW hfr (hl.of_keeps fun b o hb hnf => ⟨o, (other b (noRecord b o hb hnf)).trans hb, rfl⟩) hf ((other e (Ne.symm hTe)).trans he)
  (fun b o hbo => (other b fun q => by rw [q, hnT] at hbo; cases hbo).trans (hkb b o hbo)) hen hd (Array.getElem?_eq_some_iff.mp h1).1 h0
  fun h' ⟨x1, x2, x3, x4⟩ => h h' ⟨x1, x2, x3, fun b o hb hnf => x4 b o ((other b (noRecord b o hb hnf)).trans hb) hnf⟩
theorem zd8 {h B B' : Heap} (k : ∀ b, B.get? b = none → B'.get? b = none) : ∀ {l : List Env}, h.FunFrames B l → h.FunFrames B' l
 | [], _ => trivial
 | _ :: _, ⟨hk, ⟨L, o, hf, hn, ho, hd⟩, hr⟩ => ⟨hk, ⟨L, o, hf, k L hn, ho, hd⟩, zd8 k hr⟩
theorem zeu {h h' B : Heap} {C : Addr} (k : ∀ b o, b ≠ C → h.get? b = some o → h'.get? b = some o) : ∀ {l : List Env}, C ∉ frs l → h.FunFrames B l → h'.FunFrames B l
 | [], _, _ => trivial
 | env :: r, hc, ⟨hk, ⟨L, o, hf, hn, ho, hd⟩, hr⟩ => ⟨hk, ⟨L, o, hf, hn, k L o (fun z => hc (List.mem_filterMap.mpr ⟨env, List.mem_cons_self, by rw [hf, z]⟩)) ho, hd⟩,
  zeu k (fun z => hc (by obtain ⟨e, he, q⟩ := List.mem_filterMap.mp z; exact List.mem_filterMap.mpr ⟨e, List.mem_cons_of_mem _ he, q⟩)) hr⟩
end
structure Outs (X : Cx) (E : XK) : Prop where
 st : X.stack = X.env :: X.outer
 fr : X.env.frame = some X.env.locals
 ex : X.ex = []
 xe : ∀ e s', wpAny (model X.prog X.w) X.A (leaving X.env e) (fun _ s'' => CXE X.prog X.w X.base X.outer X.H₀ X.s₀ E e s'') (fun e' s'' => CXE X.prog X.w X.base X.outer X.H₀ X.s₀ E e' s'') s' → X.xe e s'
theorem zkH {P : Program} {w : World} {K : PySem.W.Frag} {mg : Str → Option Value} {base : Heap} {N : List Str} {qual : Str} {scope : Scope} {f : Addr} {cd : Value} {A : Around} {outer : List Env} {s : Shared} {H : Hp} {E : XK} :
 Outs (cxOf (CXE P w base) P w K mg base N qual scope f cd A outer s H E) E := ⟨rfl, rfl, rfl, fun _ _ h => h⟩
theorem ziL {X : Cx} {E : XK} {pins : List (Addr × Obj)} {σ : St} {H' : Hp} {s' : Shared} {a Cl t C : Addr} {B : Heap} (O : Outs X E) (I' : Inv X pins σ H' s')
 (fl : Heap.FlyingW B X.stack a (.ref Cl) (.ref t) s'.heap) (bs : X.base.StaysIn B) (tr : ∀ b u, H' b = some u → ∃ o, B.get? b = some o)
 (old : ∀ b o, X.s₀.heap.get? b = some o → b ∉ frs X.outer → ∃ o', B.get? b = some o') (free : H' a = none) (hC : X.s₀.heap.objs.size ≤ C) (hCH : H' C = none) (hCf : C ∉ frs X.stack) {m : Str → Option Value} (hCn : s'.heap.Ns C m) (hE : E (.ref Cl) none H')
 {what : String} {E1 : Value → Shared → Prop} :
 wpAny (model X.prog X.w) X.A (noteFrame (.ref a) X.env) (fun _ s1 => (∃ m, s1.heap.Ns C m) ∧ ∀ h', Heap.SameBut C s1.heap h' → ∀ cenv : Env, wpAny (model X.prog X.w) X.A (PySem.passOn what (.ref a) cenv : Sem Value) (fun _ _ => False) X.xe { s1 with heap := h' }) E1 s' := by
 have hB : ∀ b, B.get? b = none → (PySem.W.hideAll B [C]).get? b = none := fun b q => by
  cases z : (PySem.W.hideAll B [C]).get? b with
  | none => rfl
  | some o => rw [PySem.W.of_hideAll _ z] at q; cases q
 have toB : ∀ b o, b ≠ C → B.get? b = some o → (PySem.W.hideAll B [C]).get? b = some o := fun b o hb q => PySem.W.hideAll_get _ q fun z => hb (by simpa using z)
 have hBC : (PySem.W.hideAll B [C]).get? C = none := PySem.W.hideAll_none _ (by simp)
 have ofB : ∀ b o, (PySem.W.hideAll B [C]).get? b = some o → B.get? b = some o := fun b o q => PySem.W.of_hideAll _ q
 generalize PySem.W.hideAll B [C] = B' at hB toB hBC ofB
 obtain ⟨f1, f2, f3, oe, vs, T, oT, ts, he, hcls, hd, h1, hnT, hTe, hT, hdT, h3⟩ := fl
 have fl' : Heap.FlyingW B' (X.env :: X.outer) a (.ref Cl) (.ref t) s'.heap := by
  refine ⟨fun b o q => f1 b o (ofB b o q), hB _ f2, ?_, oe, vs, T, oT, ts, he, hcls, hd, h1, hB _ hnT, hTe, hT, hdT, h3⟩
  rw [← O.st]; exact zd8 hB f3
 have hfr : X.A.frames = some (X.env :: X.outer) := by rw [I'.ok.frames, O.st]
 have hCo : C ∉ frs (X.env :: X.outer) := by rw [← O.st]; exact hCf
 refine wpAny_looks_onW hfr O.fr fl' fun h1 held up1 => ⟨⟨m, up1.ns hCn⟩, fun h2 sb cenv => ?_⟩
 obtain ⟨k1, k2, k3, k4⟩ := held
 obtain ⟨oC, esC, epC, hoC, hdC, rC⟩ := up1.ns hCn
 obtain ⟨oe1, vs1, T1, oT1, ts1, he1, hcls1, hd1, h11, hnT1, hTe1, hT1, hdT1, h31⟩ := k4
 have aC : a ≠ C := fun z => by rw [z, hoC] at he1; cases he1; rw [hdC] at hd1; cases hd1
 have tC : T1 ≠ C := fun z => by rw [z, hoC] at hT1; cases hT1; rw [hdC] at hdT1; cases hdT1
 have sm : ∀ b o, b ≠ C → h1.get? b = some o → h2.get? b = some o := fun b o hb q => (sb.2 b hb).trans q
 refine zkT (base := B') (l := X.env :: X.outer) (cls := .ref Cl) (a0 := .ref t) (fl := rawInt X.env.locals) (fun b o q => sm b o (fun z => by rw [z, hBC] at q; cases q) (k1 b o q)) (zeu sm hCo k3)
  ⟨oe1, vs1, T1, oT1, ts1, sm _ _ aC he1, hcls1, hd1, h11, hnT1, hTe1, sm _ _ tC hT1, hdT1, h31⟩ fun h3 fl3 g1 g2 g3 g4 => O.xe _ _ ?_
 refine zjP hfr g2 O.fr g3 g1 k2 fun h4 L4 => ⟨a, Cl, H', rfl, ?_, hE⟩
 obtain ⟨l1, ⟨_, _, l2⟩, l3, l4⟩ := L4
 have same : ∀ b o ob, B'.get? b = some ob → s'.heap.get? b = some o → h4.get? b = some o := fun b o ob e e1 => by
  have := f1 b ob (ofB b ob e)
  rw [e1] at this
  cases this
  exact l1 b _ e
 have up : ∀ b o, b ≠ C → s'.heap.get? b = some o → (∀ vs, o.data ≠ .fields vs) → ∃ sl, h4.get? b = some { o with slots := sl } := fun b o hb q nf => by
  obtain ⟨sl1, e1⟩ := up1 b o q nf
  obtain ⟨sl, e4⟩ := l4 b _ (g4 b _ (sm b _ hb e1) nf) nf
  exact ⟨sl, e4⟩
 have nex : ∀ b : Addr, b ∉ X.ex := fun b => by rw [O.ex]; simp
 have neC : ∀ b o, X.s₀.heap.get? b = some o → b ≠ C := fun b o q => Nat.ne_of_lt (Nat.lt_of_lt_of_le (Heap.lt_size q) hC)
 have old' : ∀ b o, X.s₀.heap.get? b = some o → b ∉ frs X.outer → ∃ o', B'.get? b = some o' := fun b o q hb => by
  obtain ⟨o', e⟩ := old b o q hb
  exact ⟨o', toB b o' (neC b o q) e⟩
 have tr' : ∀ b u, H' b = some u → ∃ o, B'.get? b = some o := fun b u q => by
  obtain ⟨o, e⟩ := tr b u q
  exact ⟨o, toB b o (fun z => by rw [z, hCH] at q; cases q) e⟩
 have hdB : ∀ b o, X.base.get? b = some o → b ≠ C := fun b o q => neC b o (I'.ok.bs b o q).1
 refine ⟨⟨B', t, ⟨l1, hB _ f2, l2, l3⟩, fun b o q => toB b o (hdB b o q) (bs b o q), tr', old'⟩, I'.os, I'.bare, ⟨fun b o e n hb _ => ?_, fun b o e n hb _ => ?_, fun b o e n _ => I'.base.free b o e n (nex b), fun b o e _ => ?_, I'.base.tups, I'.base.frzs, I'.base.tbls⟩, fun b u e => ?_, free⟩
 · obtain ⟨o', eB⟩ := old' b o e hb
   exact same b o o' eB (I'.base.keep b o e n hb (nex b))
 · obtain ⟨sl, e1⟩ := I'.base.slot b o e n hb (nex b)
   obtain ⟨_, o2, e2, nf⟩ := I'.ok.funs.mem hb
   rw [e] at e2
   cases e2
   obtain ⟨sl2, e3⟩ := up b _ (neC b o e) e1 nf
   exact ⟨sl2, e3⟩
 · by_cases hb : b ∈ frs X.outer
   · obtain ⟨_, o2, e2, nf⟩ := I'.ok.funs.mem hb
     rw [e] at e2
     cases e2
     obtain ⟨sl, e1⟩ := I'.base.slot b o e (I'.ok.frf b hb) hb (nex b)
     obtain ⟨sl2, e3⟩ := up b _ (neC b o e) e1 nf
     exact ⟨_, e3⟩
   · obtain ⟨oB, eB⟩ := old' b o e hb
     exact ⟨_, l1 b oB eB⟩
 · refine (I'.hok b u e).stay (fun c v hc q => ?_) (fun _ q => q) fun _ _ q => q
   rcases hc with rfl | hc
   · obtain ⟨oB, eB⟩ := tr' c u e
     exact same c v oB eB q
   · obtain ⟨oB, eB⟩ := tr' c _ hc
     exact same c v oB eB q
section
variable {prog : Program} {w : World} {A : Around} {E : Value → Shared → Prop} {R : Result → Shared → Prop} {s : Shared}
theorem zfG {elt target iter : Expr} {ifs : List Expr} {scope : Scope} {pos : Pos} {it acc : Value} {env : Env} (I : Nat → Shared → Prop) (Er : Value → Shared → Prop)
 (hEr : ∀ e s, Er e s → notedBy (model prog w) A env (fun x s' => R (.error x) s') e s)
 (turn : ∀ n s, I n s → wpAny (model prog w) A (pyNext it) (fun r s₁ => match r with
  | none => R (.ok .next) s₁
  | some v => wpAny (model prog w) A (letOwnedTupleGo target it v) (fun _ s₁' => wpAny (model prog w) A (assign target env v) (fun _ s₂ =>
   wpAny (model prog w) A (forIn ifs true fun c r => if r = true then do let ok ← isTrue c env (eval c env); pure (ForInStep.yield ok) else pure (ForInStep.yield r)) (fun ok s₃ =>
    if ok = true then wpAny (model prog w) A (eval elt env) (fun x s₄ =>
     wpAny (model prog w) A (call (.builtin "list.append") [acc, x]) (fun _ s₅ => ∃ m, m < n ∧ I m s₅) Er s₄) Er s₃
    else ∃ m, m < n ∧ I m s₃) Er s₂) Er s₁') Er s₁) Er s)
 (n : Nat) (h : I n s) :
 codeAny (model prog w) A (.compLoop (.ListComp elt [⟨target, iter, ifs, 0⟩] scope pos) 0 it acc env) R s := by
 refine codeAny_loop rfl I (fun n s hI => ?_) n h
 show wpAny _ A ((compTurn (.ListComp elt [⟨target, iter, ifs, 0⟩] scope pos) 0 it acc env).onRaise (fun x => do noteFrame x env; theTreesLotGoes x)) _ _ s
 refine wpAny_noted ?_
 rw [compTurn_list]
 refine wpAny_bind (wpAny_standAt (wpAny_bind (wpAny_mono (turn n s hI) (fun r s₁ h₁ => ?_) hEr)))
 cases r with
 | none => exact wpAny_pure h₁
 | some v =>
  refine wpAny_bind (wpAny_mono h₁ (fun _ s₁' h₁' => ?_) hEr)
  refine wpAny_bind (wpAny_mono h₁' (fun _ s₂ h₂ => wpAny_bind (wpAny_mono h₂ (fun ok s₃ h₃ => ?_) hEr)) hEr)
  cases ok with
  | false => exact wpAny_pure ⟨rfl, h₃⟩
  | true =>
   exact wpAny_bind (wpAny_bind (wpAny_mono h₃ (fun x s₄ h₄ => wpAny_bind (wpAny_mono h₄ (fun _ s₅ h₅ => wpAny_pure (wpAny_pure ⟨rfl, h₅⟩)) hEr)) hEr))
end
section
variable {X : Cx} {E : XK} {tg iter elt : Expr} {ifs : List Expr} {wi : TI} {js : Cap} {g : TG} {tc : TT} {te : TE} {N' : List Str} {scope : Scope} {pos : Pos}
abbrev BlkX (X : Cx) (C : Addr) (r : Result) (s' : Shared) : Prop := ∃ x, r = .error x ∧ (∃ m, s'.heap.Ns C m) ∧ ∀ h', Heap.SameBut C s'.heap h' → ∀ cenv : Env, wpAny (model X.prog X.w) X.A (PySem.passOn "comprehension.variables-let-go" x cenv : Sem Value) (fun _ _ => False) X.xe { s' with heap := h' }
theorem ziO {pins : List (Addr × Obj)} {σ : St} {H : Hp} {s : Shared} {E1 : Value → Shared → Prop} {Q : VK} {J : It} {it : Addr} {fp : List Addr} {tn : Nat → Heap → Prop} {cl : List (Str × Addr)}
 (O : Outs X E) (hc : X.calm = true) (ok : CapOk X N' js scope)
 (h2 : ∀ x c, cl.lookup x = some c → X.env.cells.lookup x = some c) (h3 : ∀ p ∈ scope.names, p.2 = .free → (cl.lookup p.1).isSome = true)
 (hg : ∀ cl C s₀ H₀ ex, PG (lcx X N' scope cl C s₀ H₀ ex) tg g) (ht : ∀ cl C s₀ H₀ ex, PIfs (lcx X N' scope cl C s₀ H₀ ex) ifs tc) (he : ∀ cl C s₀ H₀ ex pins, PE ((lcx X N' scope cl C s₀ H₀ ex).tryX (fun _ c H => E c none H) pins) elt te)
 (I : Inv X pins σ H s) (T : Turn X.prog X.w X.K tg J fp it tn) (st : tn 0 s.heap) (hf : ∀ b ∈ fp, FpOk X pins H b)
 (hw : ∀ p, H p = none → zcn J p js g tc te σ H Q) :
 wpAny (model X.prog X.w) X.A (newList []) (fun acc s₃ => wpAny (model X.prog X.w) X.A (newFunctionEnv scope X.env.globals cl [] X.env.qual none .none (some X.env)) (fun cenv s₄ =>
  codeAny (model X.prog X.w) X.A (.compStart (.ListComp elt [⟨tg, iter, ifs, 0⟩] scope pos) 0 (.ref it) acc { cenv with scope := relabel scope X.env })
   (fun r s' => (r = .ok .next ∧ (∃ m, s'.heap.Ns cenv.locals m) ∧ ∃ v H', RelV v acc ∧ Inv X pins σ H' s' ∧ FpOk X pins H' cenv.locals ∧ Q v H') ∨ BlkX X cenv.locals r s') s₄) E1 s₃) E1 s := by
 have objs := T.obj _ _ st
 refine wpAny_newObj_type ?_ (by show 0 ≤ sizeLine; decide)
 obtain ⟨W, ⟨m0, w0⟩, turn⟩ := hw s.heap.objs.size (I.hok.fresh (Nat.le_refl _))
 generalize hp : s.heap.objs.size = p at *
 have kp : ∀ b u, s.heap.get? b = some u → (s.heap.push { cls := .type "list", dict := none, data := .seq ([] : List Value).toArray }).get? b = some u := fun b u e => Heap.get?_push_of_some _ e
 have I3 : Inv X pins σ (upd H p (.lst [])) { s with heap := s.heap.push { cls := .type "list", dict := none, data := .seq ([] : List Value).toArray } } := by
  refine I.laid (t' := s.toks) kp (by rw [hp]; exact Nat.le_refl _) ⟨Nat.zero_le _, [], 0, .nil, ?_⟩
  have := Heap.get?_push_size s.heap (o := { cls := .type "list", dict := none, data := .seq ([] : List Value).toArray }) rfl
  rw [hp] at this
  exact this
 have fne : ∀ b ∈ fp, b ≠ p := fun b hb => by
  obtain ⟨o, e, _⟩ := objs b hb
  have := Heap.lt_size e
  rw [← hp]
  exact Nat.ne_of_lt this
 have hf3 : ∀ b ∈ fp, FpOk X pins (upd H p (.lst [])) b := fun b hb => ⟨by rw [zak (fne b hb)]; exact (hf b hb).1, (hf b hb).2⟩
 have st3 : tn 0 (s.heap.push { cls := .type "list", dict := none, data := .seq ([] : List Value).toArray }) := T.keep _ _ _ st fun b _ o e => kp b o e
 have lt3 : ∀ b ∈ fp, b < (s.heap.push { cls := .type "list", dict := none, data := .seq ([] : List Value).toArray }).objs.size := fun b hb => by
  obtain ⟨o, e, _⟩ := objs b hb
  exact Heap.lt_size (kp b o e)
 generalize hs3 : ({ s with heap := s.heap.push { cls := .type "list", dict := none, data := .seq ([] : List Value).toArray } } : Shared) = s3 at *
 have eh : s.heap.push { cls := .type "list", dict := none, data := .seq ([] : List Value).toArray } = s3.heap := by rw [← hs3]
 rw [eh] at st3 lt3
 refine wpAny_newFunctionEnv ok.ncell (by intro y hy; simp at hy) (fun h₁ hns₁ hsb₁ => ?_) ok.kind
 try dsimp only at hns₁ hsb₁ ⊢
 have k4 : ∀ b u, s3.heap.get? b = some u → h₁.get? b = some u := fun b u e => (hsb₁.2 b (Nat.ne_of_lt (Heap.lt_size e))).trans (Heap.get?_push_of_some _ e)
 have I4 := zd6 (cl := cl) (h₁ := h₁) (t' := s3.toks + ([] : List (Str × Value)).length) ok I3 h2 h3 hf3 lt3 k4 ⟨_, hns₁⟩
 have st4 : tn 0 h₁ := T.keep _ _ _ st3 fun b _ o e => k4 b o e
 generalize hX : lcx X N' scope cl s3.heap.objs.size s3 (upd H p (.lst [])) fp = X' at I4
 have hg' : PG X' tg g := by rw [← hX]; exact hg _ _ _ _ _
 have ht' : PIfs X' ifs tc := by rw [← hX]; exact ht _ _ _ _ _
 have he' : ∀ pins, PE (X'.tryX (fun _ c H => E c none H) pins) elt te := by rw [← hX]; exact fun pins => he _ _ _ _ _ pins
 have eP : X'.prog = X.prog := by rw [← hX]; rfl
 have ew : X'.w = X.w := by rw [← hX]; rfl
 have eK : X'.K = X.K := by rw [← hX]; rfl
 have ec : X'.calm = true := by rw [← hX]; exact hc
 have eA : X'.A = X.A := by rw [← hX]; rfl
 have ex : X'.xe = fun _ _ => False := by rw [← hX]; rfl
 have eE : X'.env = compEnvC scope cl s3.heap.objs.size X.env := by rw [← hX]; rfl
 have eEx : X'.ex = fp := by rw [← hX]; rfl
 have eN : X'.pn = [] := by rw [← hX]; rfl
 have stat : ∀ {H' : Hp}, (∀ b ∈ fp, H' b = none) → ∀ b ∈ fp, FpOk X' [] H' b := fun {H'} hn b hb => by
  have okc := I4.ok
  refine ⟨hn b hb, (okc.exf b (by rw [eEx]; exact hb)).1, okc.exfs b (by rw [eEx]; exact hb), .inl (by rw [eEx]; exact hb), (okc.exf b (by rw [eEx]; exact hb)).2, fun q hq => ?_⟩
  rw [eN] at hq
  cases hq
 have toX : ∀ {σ' : St} {H' : Hp} {s' : Shared} {pins' : List (Addr × Obj)}, Inv X' pins' σ' H' s' → Inv X pins σ H' s' := fun {σ' H' s' pins'} I6 => by
  have b6 := I6.base
  have ho := I6.os
  have hk := I6.hok
  have hb := I6.bare
  subst hX
  exact I3.call' (ch := fp) ho b6 hk hb fun b hb' => ⟨(hf b hb').2.2.2.1, (hf b hb').2.1, (hf b hb').2.2.2.2.1, (hf b hb').2.2.2.2.2⟩
 have raised : ∀ e s', (∃ pins', XE X' (fun _ c H => E c none H) pins' e s') → notedBy (model X.prog X.w) X.A (compEnvC scope cl s3.heap.objs.size X.env)
  (fun x s' => ((.error x : Result) = .ok .next ∧ (∃ m, s'.heap.Ns s3.heap.objs.size m) ∧ ∃ v H', RelV v (.ref p) ∧ Inv X pins σ H' s' ∧ FpOk X pins H' s3.heap.objs.size ∧ Q v H') ∨ BlkX X s3.heap.objs.size (.error x) s') e s' := by
  rintro e s' ⟨pins', a, Cl, H0, s0, σ', H', rfl, I0, fly, hE⟩
  have eS : X'.stack = X.stack := by rw [← hX]; rfl
  have eB : X'.base = X.base := by rw [← hX]; rfl
  have I' := fly.inv I0
  have ID := toX I'
  have ID0 := toX I0
  obtain ⟨B, t, fb⟩ := fly.ex
  rw [eS, eB] at fb
  obtain ⟨m, hm, _⟩ := I'.loc
  rw [eE] at hm
  have fr := I'.free
  rw [eE] at fr
  have FC : FpOk X pins H' s3.heap.objs.size := I3.fpOk (Nat.le_refl _) fr
  have nex : ∀ b : Addr, b ∉ X.ex := fun b => by rw [O.ex]; simp
  refine wpAny_mono (ziL (C := s3.heap.objs.size) (what := "comprehension.variables-let-go") (E1 := fun _ _ => False) O ID fb.fl fb.bs fb.tr (fun b o q hb => ?_) fly.free ?_ fr (fun z => ?_) hm hE) (fun _ s1 h1 => .inr ⟨_, rfl, h1⟩) fun _ _ z => z.elim
  · obtain ⟨o1, e1⟩ := ID0.base.there b o q (nex b)
    refine fb.old b o1 e1 fun hm' => ?_
    rcases List.mem_cons.mp (ID.stkSub b hm') with z | z
    · exact absurd z (Nat.ne_of_lt (Nat.lt_of_lt_of_le (Heap.lt_size q) ID.ok.above))
    · exact hb z
  · exact I3.sz
  · rcases List.mem_cons.mp (ID.stkSub _ z) with z | z
    · exact FC.2.1 z
    · exact FC.2.2.1 z
 have loop : ∀ s₄ : Shared, s₄ = { s3 with heap := h₁, toks := s3.toks + ([] : List (Str × Value)).length } →
  codeAny (model X.prog X.w) X.A (.compLoop (.ListComp elt [⟨tg, iter, ifs, 0⟩] scope pos) 0 (.ref it) (.ref p) (compEnvC scope cl s3.heap.objs.size X.env))
   (fun r s' => (r = .ok .next ∧ (∃ m, s'.heap.Ns s3.heap.objs.size m) ∧ ∃ v H', RelV v (.ref p) ∧ Inv X pins σ H' s' ∧ FpOk X pins H' s3.heap.objs.size ∧ Q v H') ∨ BlkX X s3.heap.objs.size r s') s₄ := by
  rintro s₄ rfl
  refine zfG (fun n s' => ∃ i σ' ys H', Inv X' [] σ' H' s' ∧ tn i s'.heap ∧ (∀ b ∈ fp, H' b = none) ∧ W i n σ' ys H') (fun e s' => ∃ pins', XE X' (fun _ c H => E c none H) pins' e s') raised ?_ m0 ⟨0, _, [], _, I4, st4, fun b hb => (hf3 b hb).1, w0⟩
  rintro n s5 ⟨i, σ5, ys, H5, I5, st5, fr5, w5⟩
  obtain ⟨hp5, tu⟩ := turn i n σ5 ys H5 w5
  rcases tu with ⟨stop, qn⟩ | ⟨go, hz, step⟩
  · have D := T.done X' eP ew eK ec i [] s5 σ5 H5 (fun _ _ => False) I5 (stat fr5) st5 stop
    rw [eA] at D
    refine wpAny_mono D (fun r s6 ⟨hr, I6⟩ => ?_) fun _ _ z => z.elim
    subst hr
    refine .inl ⟨rfl, ?_, .ref p, H5, rfl, toX I6, ?_, qn⟩
    · obtain ⟨m, hm, _⟩ := I6.loc
      rw [eE] at hm
      exact ⟨m, hm⟩
    · have fr := I6.free
      rw [eE] at fr
      exact I3.fpOk (Nat.le_refl _) fr
  · have D := T.item X' eP ew eK ec i [] s5 σ5 H5 (fun _ _ => False) I5 (stat fr5) st5 go
    rw [eA] at D
    refine wpAny_mono D (fun r s6 ⟨u, hr, h6⟩ => ?_) fun _ _ z => z.elim
    subst hr
    refine wpAny_mono h6 (fun _ s7 ⟨x, H7, I7, r7, y7, st7, fr7⟩ => ?_) fun _ _ z => z.elim
    have I7' := I7.pinned (stat fr7) (T.obj _ _ st7)
    have G := hg' _ s7 σ5 H7 x u _ I7' r7 (step x H7 y7)
    rw [eP, ew, eA, ex, eE] at G
    refine wpAny_mono G (fun _ s8 ⟨σ8, H8, I8, q8⟩ => ?_) fun _ _ z => z.elim
    have Tt := ht' _ s8 σ8 H8 _ I8 q8
    rw [eP, ew, eA, ex, eE] at Tt
    refine wpAny_mono Tt (fun b s9 ⟨H9, I9, q9⟩ => ?_) fun _ _ z => z.elim
    have again : ∀ {s' : Shared} {ys' : List V} {H' : Hp}, Inv X' ([] ++ zcT fp s7.heap) σ8 H' s' → (∃ m', m' < n ∧ W (i + 1) m' σ8 ys' H') →
     ∃ m, m < n ∧ ∃ i σ' ys H', Inv X' [] σ' H' s' ∧ tn i s'.heap ∧ (∀ b ∈ fp, H' b = none) ∧ W i m σ' ys H' := fun {s' ys' H'} I' ⟨m', hm, w'⟩ => by
     refine ⟨m', hm, i + 1, σ8, ys', H', I'.unpinned, T.keep _ _ _ st7 fun b hb o e => (I'.pin (b, o) (List.mem_append_right _ (List.mem_append_right _ (za2 hb e)))).1, fun b hb => ?_, w'⟩
     obtain ⟨o, e, d⟩ := T.obj _ _ st7 b hb
     exact (I'.pin (b, o) (List.mem_append_right _ (List.mem_append_right _ (za2 hb e)))).2.1
    cases b with
    | false => exact again I9 q9
    | true =>
     have Ee := he' ([] ++ zcT fp s7.heap) [] s9 σ8 H9 _ (I9.tryX _) q9
     have Ee : wpAny (model X'.prog X'.w) X'.A (eval elt X'.env) _ (XE X' (fun _ c H => E c none H) ([] ++ zcT fp s7.heap)) s9 := Ee
     rw [eP, ew, eA, eE] at Ee
     show wpAny _ _ _ _ _ _
     refine wpAny_mono Ee (fun xv s10 ⟨y, H10, I10, r10, hp10, q10⟩ => ?_) fun _ _ z => ⟨_, z⟩
     have I10 := I10.outTry
     have Ap := zcl (X := X') _ s10 σ8 H10 (.ref p) [y] (.ref p) [xv] (fun _ H' => H' = upd H10 p (.lst (ys ++ [y]))) I10 rfl (.cons r10 .nil) ⟨p, ys, y, rfl, rfl, hp10, hz, rfl⟩
     rw [eP, ew, eA, ex] at Ap
     refine wpAny_mono Ap (fun _ s11 ⟨_, H11, I11, _, e11⟩ => ?_) fun _ _ z => z.elim
     subst e11
     exact again I11 q10
 exact codeAny_compStart_list (loop _ rfl) (T.self _ 0 _ _ _ st4 (loop _ rfl))
theorem zlv (O : Outs X E) (hc : X.calm = true) (ok : CapOk X N' js scope) (hi : PI X tg iter wi)
 (hg : ∀ cl C s₀ H₀ ex, PG (lcx X N' scope cl C s₀ H₀ ex) tg g) (ht : ∀ cl C s₀ H₀ ex, PIfs (lcx X N' scope cl C s₀ H₀ ex) ifs tc) (he : ∀ cl C s₀ H₀ ex pins, PE ((lcx X N' scope cl C s₀ H₀ ex).tryX (fun _ c H => E c none H) pins) elt te)
 (hs : ∀ x, foldedSetIterable iter X.env x = pure x := by intro _; rfl) : PE X (.ListComp elt [⟨tg, iter, ifs, 0⟩] scope pos) (tLC wi js g tc te) := by
 intro pins s σ H Q I h
 obtain ⟨cl, c1, c2, c3⟩ := ze9 (scope := scope) I.ok.has ok.free
 rw [eval_ListComp]
 refine wpAny_comprehension_free (use := none) rfl hs c1 ok.kind ok.names (thn (hi pins s σ H _ I h) fun v s1 h1 => thn h1 fun itv s2 h2 => ?_)
 obtain ⟨it, fp, tn, J, H2, e, I2, T, st2, f2, hw⟩ := h2
 subst e
 refine wpAny_mono (ziO (iter := iter) (pos := pos) O hc ok c2 c3 hg ht he I2 T st2 f2 hw) (fun acc s3 h3 => wpAny_mono h3 (fun cenv s4 h4 => ?_) fun _ _ z => z) fun _ _ z => z
 refine codeAny_mono h4 fun r s5 h5 => ?_
 rcases h5 with h5 | ⟨x, rfl, ⟨m, hm⟩, hx⟩
 · obtain ⟨rfl, ⟨m, hm⟩, v, H5, rv, I5, f5, q5⟩ := h5
   refine ⟨m, hm, fun h' sb => ?_⟩
   obtain ⟨f0, f1, _, f3, f4, f6⟩ := f5
   exact ⟨v, H5, I5.turned (t' := s5.toks) (fun b o hb e => (sb.2 b hb).trans e) f0 f1 f3 f4 f6, rv, q5⟩
 · exact ⟨m, hm, fun h' sb cenv' _ => hx h' sb cenv'⟩
end
section
variable {X : Cx}
def rNeE : R2 := fun x y H Q => ∃ a b xs, x = .ref a ∧ y = .ref b ∧ H a = some (.lst xs) ∧ H b = some (.lst []) ∧ Q (.bl (!xs.isEmpty)) H
theorem zj8 (hr : zhW X) : OpR X (compareOp .NotEq) rNeE := by
 intro pins s σ H x y v u Q I rx ry h
 obtain ⟨a, b, xs, rfl, rfl, ha, hb, q⟩ := h
 cases (show v = Value.ref a from rx)
 cases (show u = Value.ref b from ry)
 unfold zhW at hr
 obtain ⟨_, its, n, rv, hg⟩ := (show ObjOk X.prog X.w H s.heap a (.lst xs) from I.hok a _ ha)
 obtain ⟨_, its', n', rv', hg'⟩ := (show ObjOk X.prog X.w H s.heap b (.lst []) from I.hok b _ hb)
 cases rv'
 cases xs with
 | nil =>
  cases rv
  exact zkA ⟨_, hg, rfl, _, rfl⟩ ⟨_, hg', rfl, _, rfl⟩ rfl (by omega) (fun j k1 k2 => absurd k1 (by simp)) ⟨.bl false, H, I, rfl, q⟩
 | cons x xs =>
  have l := rv.length
  exact SeqAt.RcNeAt.lists_lengths (l := a) (b := b) ⟨_, hg, rfl, _, rfl⟩ ⟨_, hg', rfl, _, rfl⟩ (by simp; intro z; rw [z] at l; simp at l) (by omega) X.prog X.w _ _ ⟨.bl true, H, I, rfl, q⟩
end
mutual
def szY : DY → Nat
 | .str x => x.length
 | .lst ds => max ds.length (szYs ds)
 | .tup ds => max ds.length (szYs ds)
 | .da d => szY d
 | _ => 0
def szYs : List DY → Nat
 | [] => 0
 | d :: ds => max (szY d) (szYs ds)
end
open PySem.Builtin PySem.Builtin.Str PySem.NumText
theorem zlZ : bootBuiltins "abs" = some (.builtin "abs") := by decide +kernel
theorem sg_minus : sg ("-" : Str) = [45] := by decide +kernel
theorem sg_star : sg ("*" : Str) = [42] := by decide +kernel
theorem zb7 : sg (":" : Str) = [58] := by decide +kernel
theorem zeN : sg (".." : Str) = [46, 46] := by decide +kernel
theorem zdy : sg (" " : Str) = [32] := by decide +kernel
theorem zcP : sg ("0" : Str) = [48] := by decide +kernel
theorem zhz : sg ("-0" : Str) = [45, 48] := by decide +kernel
theorem zjX : (" " : Str) = ⟨#[32]⟩ := zdi (by rw [zdy]; rfl)
def Sm (n : Int) : Prop := -T15 < n ∧ n < T15
def SmO (o : Option Int) : Prop := ∀ n, o = some n → Sm n
def Md (n : Int) : Prop := -(10 * T15) < n ∧ n < 10 * T15
theorem Sm.md {n : Int} (h : Sm n) : Md n := by unfold Sm at h; unfold Md T15 at *; omega
instance (n : Int) : Decidable (Sm n) := by unfold Sm; infer_instance
theorem zca {n : Int} (h : Md n) : (numL n).length ≤ 17 := by
 unfold Md T15 at h
 rcases Int.lt_or_le n 0 with h1 | h1
 · obtain ⟨m, rfl, hm⟩ : ∃ m : Nat, n = -(m : Int) ∧ 0 < m := ⟨n.natAbs, by omega, by omega⟩
   rw [zdC m hm, List.length_cons]
   have := zda (m := m) (k := 16) (by decide) (by omega)
   omega
 · obtain ⟨m, rfl⟩ := Int.eq_ofNat_of_zero_le h1
   have := zda (m := m) (k := 16) (by decide) (by omega)
   omega
theorem zbA {o : Option Int} (h : SmO o) : (endL o).length ≤ 17 := by
 cases o with
 | none => decide
 | some n => exact zca (h n rfl).md
theorem zjL {sep : List Nat} (hs : sep.length ≤ 2) : ∀ {ws : List (List Nat)}, (∀ w ∈ ws, w.length ≤ 60) → (jn sep ws).length ≤ 62 * ws.length
 | [], _ => Nat.zero_le _
 | [w], h => by have := h w (by simp); show w.length ≤ 62 * 1; omega
 | w :: v :: r, h => by
  have ih := zjL hs (ws := v :: r) fun x hx => h x (List.mem_cons_of_mem _ hx)
  have := h w (by simp)
  show (w ++ sep ++ jn sep (v :: r)).length ≤ 62 * (w :: v :: r).length
  rw [List.length_append, List.length_append, List.length_cons]
  omega
theorem ziK {n : Int} (h : Md n) : n.natAbs.log2 < 1920 := by
 unfold Md T15 at h
 have h1 : n.natAbs < 2 ^ 60 := by omega
 by_cases h0 : n.natAbs = 0
 · rw [h0]; decide
 · exact Nat.lt_trans ((Nat.log2_lt h0).mpr h1) (by decide)
theorem zhy {x : Str} {n : Int} (hx : sg x = numL n) : (decide (0 + ("-" : Str).length ≤ x.length) && subAt x ("-" : Str) 0) = decide (n < 0) := by
 have e1 : ("-" : Str).length = 1 := by decide +kernel
 rw [StrLaws.subAt_eq]
 have e2 : ("-" : Str).cps.toList = [45] := sg_minus
 have e3 : x.cps.toList = numL n := hx
 rw [e1, e2, e3, zaF, hx]
 rcases Int.lt_or_le n 0 with h1 | h1
 · obtain ⟨m, rfl, hm⟩ : ∃ m : Nat, n = -(m : Int) ∧ 0 < m := ⟨n.natAbs, by omega, by omega⟩
   rw [zdC m hm, decide_eq_true h1]
   simp
 · rw [decide_eq_false (show ¬ n < 0 from Int.not_lt.mpr h1)]
   obtain ⟨m, rfl⟩ := Int.eq_ofNat_of_zero_le h1
   have hd := zcB m
   cases e : numL (m : Int) with
   | nil => rfl
   | cons c r =>
    rw [e] at hd
    have := hd c (by simp)
    simp
    try omega
theorem ge_0 {c : Nat} (h : 48 ≤ c) : (!decide ((⟨#[c]⟩ : Str).cps.toList < ("0" : Str).cps.toList)) = true := by
 rw [show ("0" : Str).cps.toList = [48] from zcP]
 have : ¬ ([c] : List Nat) < [48] := by
  intro z
  cases z with
  | rel z => exact absurd z (by omega)
  | cons z => cases z
 show (!decide (([c] : List Nat) < [48])) = true
 rw [decide_eq_false this]
 rfl
theorem le_9 {c : Nat} (h : c ≤ 57) : (!decide (("9" : Str).cps.toList < (⟨#[c]⟩ : Str).cps.toList)) = true := by
 rw [show ("9" : Str).cps.toList = [57] from by decide +kernel]
 have : ¬ ([57] : List Nat) < [c] := by
  intro z
  cases z with
  | rel z => exact absurd z (by omega)
  | cons z => cases z
 show (!decide (([57] : List Nat) < [c])) = true
 rw [decide_eq_false this]
 rfl
theorem zlC {m : Nat} (h : ¬ Sm (m : Int)) : 10 ^ 15 ≤ m := by unfold Sm T15 at h; omega
theorem zli {m : Nat} (h : Sm (m : Int)) : m < 10 ^ 15 := by unfold Sm T15 at h; omega
theorem zkn (p : WP) : 58 ∈ wpL p := by unfold wpL; simp
theorem zkF (p : PP) : 58 ∈ ppL p := by unfold ppL; simp
theorem zlL {c : Nat} {sep : List Nat} : ∀ {ws : List (List Nat)}, ws ≠ [] → (∀ w ∈ ws, c ∈ w) → c ∈ jn sep ws
 | [], h, _ => absurd rfl h
 | [w], _, h => h w (by simp)
 | w :: v :: r, _, h => by
  show c ∈ w ++ sep ++ jn sep (v :: r)
  exact List.mem_append_left _ (List.mem_append_left _ (h w (by simp)))
def zfd (x : Str) (ws : List (List Nat)) : Prop := (∀ w ∈ ws, 32 ∉ w) ∧ ((ws = [] ∧ sg x = [45]) ∨ (ws ≠ [] ∧ sg x ≠ [45] ∧ sg x = jn [32] ws))
theorem zff {α : Type} {x : Str} {w : List α} (f : α → List Nat) (h0 : ∀ p, 58 ∈ f p) (hx : sg x = if w = [] then [45] else jn [32] (w.map f)) (hb : ∀ p ∈ w, 32 ∉ f p) : zfd x (w.map f) := by
 refine ⟨fun v hv => ?_, ?_⟩
 · obtain ⟨p, hp, rfl⟩ := List.mem_map.mp hv
   exact hb p hp
 · by_cases hw : w = []
   · subst hw
     exact .inl ⟨rfl, by rw [hx, if_pos rfl]⟩
   · rw [if_neg hw] at hx
     refine .inr ⟨fun z => hw (List.map_eq_nil_iff.mp z), fun z => ?_, hx⟩
     have h58 : 58 ∈ jn [32] (w.map f) := zlL (fun z => hw (List.map_eq_nil_iff.mp z)) fun v hv => by
      obtain ⟨p, _, rfl⟩ := List.mem_map.mp hv
      exact h0 p
     rw [← hx, z] at h58
     simp at h58
theorem zhr {x : Str} {w : List WP} (hw : WOk w) (hx : sg x = zez w) : zfd x (w.map wpL) := by
 refine zff wpL zkn ?_ fun p hp => zk7 (hw.ok p hp).1
 rw [hx]
 by_cases h : w = [] <;> simp [zez, h]
theorem zfT {x : Str} {w : List PP} (hw : POk w) (hx : sg x = zcF w) : zfd x (w.map ppL) := by
 refine zff ppL zkF ?_ fun p hp => zlp (hw.ok p hp)
 rw [hx]
 by_cases h : w = [] <;> simp [zcF, h]
theorem zdE {sep : Str} {ts : List Str} (hs : sep.length ≤ 2) (h : ∀ t ∈ ts, t.length ≤ 60) (hl : ts.length ≤ 100) : JoinOk sep ts = true := by
 unfold JoinOk
 rw [Bool.not_eq_true']
 refine StrLaws.joinFits (B := 60) (fun y hy => h y hy) ?_
 have : ts.length * sep.length ≤ 100 * 2 := Nat.mul_le_mul hl hs
 omega
theorem zkO {c A B : Prop} [Decidable c] (hc : c) (h : A) : if c then A else B := by
 rw [if_pos hc]
 exact h
theorem zg7 : sg Str.empty = [] := rfl
theorem zaV : (":" : Str).length = 1 := by decide +kernel
theorem zdD : (".." : Str).length = 2 := by decide +kernel
theorem zd4 : (" " : Str).length = 1 := by decide +kernel
theorem zaU : Str.empty.length = 0 := rfl
theorem zhZ {p : WP} (h : FieldOk p.1) (h1 : SmO p.2.1) (h2 : SmO p.2.2) : (wpL p).length ≤ 60 := by
 unfold wpL
 have := h.eight
 rw [zaF] at this
 have h1 := zbA h1
 have h2 := zbA h2
 simp only [List.length_append, List.length_cons, List.length_nil]
 omega
theorem zin {p : PP} (h : FieldOk p.1) (h1 : Md p.2) : (ppL p).length ≤ 60 := by
 unfold ppL
 have := h.eight
 rw [zaF] at this
 have h1 := zca h1
 simp only [List.length_append, List.length_cons, List.length_nil]
 omega
def spCW (C : Addr) : Sp := fun vs H Q E => ∃ b : Bool, vs = [.bl b] ∧ (b = true → Q .non H) ∧ (b = false → E (.ref C) none H)
def spCT : Sp := fun vs H Q _ => ∃ x : Str, vs = [.str x] ∧ Q .non H
def zfX : Sp := fun vs H Q _ => ∃ (x : Str) (ws : List (List Nat)), vs = [.str x] ∧ x.length ≤ 100000 ∧ zfd x ws ∧ ∀ (p : Addr) (ts : List Str), ts.map sg = ws → H p = none → Q (.ref p) (upd H p (.lst (ts.map V.str)))
def zga (C : Addr) : Sp := fun vs H Q E => ∃ (x : Str) (m : Nat), vs = [.str x, .int 15] ∧ sg x = numL (m : Int) ∧ Md (m : Int) ∧ (Sm (m : Int) → ∀ H', Same H H' → Q (.int m) H') ∧ (¬ Sm (m : Int) → ∀ H', Same H H' → E (.ref C) none H')
def zf6 (C : Addr) : Sp := fun vs H Q E => ∃ (x : Str) (n : Int), vs = [.str x] ∧ sg x = numL n ∧ Md n ∧ (Sm n → ∀ H', Same H H' → Q (.int n) H') ∧ (¬ Sm n → ∀ H', Same H H' → E (.ref C) none H')
def zf9 : Sp := fun vs H Q _ => ∃ (x : Str) (o : Option Int), vs = [.str x] ∧ sg x = endL o ∧ SmO o ∧ ∀ H', Same H H' → Q (eV o) H'
def zh6 : Sp := fun vs H Q _ => ∃ (x : Str) (p : WP), vs = [.str x] ∧ sg x = wpL p ∧ FieldOk p.1 ∧ SmO p.2.1 ∧ SmO p.2.2 ∧ ∀ t H', Same H H' → H t = none → H' t = some (.tup [.str p.1, eV p.2.1, eV p.2.2]) → Q (.ref t) H'
def zh8 (C : Addr) : Sp := fun vs H Q E => ∃ (x : Str) (p : PP), vs = [.str x] ∧ sg x = ppL p ∧ FieldOk p.1 ∧ Md p.2 ∧ (Sm p.2 → ∀ t H', Same H H' → H t = none → H' t = some (.tup [.str p.1, .int p.2]) → Q (.ref t) H') ∧ (¬ Sm p.2 → ∀ H', Same H H' → E (.ref C) none H')
def WSm (w : List WP) : Prop := ∀ p ∈ w, SmO p.2.1 ∧ SmO p.2.2
def PSm (w : List PP) : Prop := ∀ p ∈ w, Sm p.2
def PMd (w : List PP) : Prop := ∀ p ∈ w, Md p.2
def zf2 : Sp := fun vs H Q _ => ∃ (x : Str) (w : List WP), vs = [.str x] ∧ WOk w ∧ WSm w ∧ sg x = zez w ∧ ∀ a H', Same H H' → WishAt H' a w → Q (.ref a) H'
def zf3 (C : Addr) : Sp := fun vs H Q E => ∃ (x : Str) (w : List PP), vs = [.str x] ∧ POk w ∧ PMd w ∧ sg x = zcF w ∧ (PSm w → ∀ a H', Same H H' → PieceAt H' a w → Q (.ref a) H') ∧ (¬ PSm w → ∀ H', Same H H' → E (.ref C) none H')
def zf1 : Sp := fun vs H Q _ => ∃ o : Option Int, vs = [eV o] ∧ SmO o ∧ ∀ x : Str, sg x = endL o → Q (.str x) H
def zfZ : Sp := fun vs H Q _ => ∃ (a : Addr) (w : List WP), vs = [.ref a] ∧ WishAt H a w ∧ WOk w ∧ WSm w ∧ ∀ (x : Str) H', Same H H' → sg x = zez w → Q (.str x) H'
def zf0 : Sp := fun vs H Q _ => ∃ (a : Addr) (w : List PP), vs = [.ref a] ∧ PieceAt H a w ∧ POk w ∧ PMd w ∧ ∀ (x : Str) H', Same H H' → sg x = zcF w → Q (.str x) H'
abbrev GP := Str × List (Option Int)
def gpL (p : GP) : List Nat := sg p.1 ++ [58] ++ jn [46, 46] (p.2.map endL)
def GAt (H : Hp) (a : Addr) (w : List GP) : Prop := ∃ ps : List (Addr × GP), ps.map (·.2) = w ∧ H a = some (.tup (ps.map fun p => V.ref p.1)) ∧ ∀ p ∈ ps, H p.1 = some (.tup (V.str p.2.1 :: p.2.2.map eV))
def genL (w : List GP) : List Nat := if w = [] then [45] else jn [32] (w.map gpL)
structure GOk (w : List GP) : Prop where
 len : w.length ≤ 100
 ok : ∀ p ∈ w, p.1.length ≤ 8 ∧ p.2.length ≤ 2 ∧ ∀ o ∈ p.2, (endL o).length ≤ 17 ∧ ∀ n, o = some n → Md n
def zdH : Sp := fun vs H Q _ => ∃ (a : Addr) (w : List GP), vs = [.ref a] ∧ GAt H a w ∧ GOk w ∧ ∀ (x : Str) H', Same H H' → sg x = genL w → Q (.str x) H'
def wG (p : WP) : GP := (p.1, [p.2.1, p.2.2])
def pG (p : PP) : GP := (p.1, [some p.2])
theorem zkR {p : GP} (h8 : p.1.length ≤ 8) (h2 : p.2.length ≤ 2) (h : ∀ o ∈ p.2, (endL o).length ≤ 17 ∧ ∀ n, o = some n → Md n) : (gpL p).length ≤ 60 := by
 unfold gpL
 rw [zaF] at h8
 obtain ⟨f, es⟩ := p
 have hh : (jn [46, 46] (es.map endL)).length ≤ 36 := by
  match es, h2, h with
  | [], _, _ => exact Nat.zero_le _
  | [o], _, h => have := (h o (by simp)).1; show (endL o).length ≤ 36; omega
  | [o, o'], _, h =>
   have h1 := (h o (by simp)).1
   have h2 := (h o' (by simp)).1
   show (endL o ++ [46, 46] ++ endL o').length ≤ 36
   simp only [List.length_append, List.length_cons, List.length_nil]
   omega
  | _ :: _ :: _ :: _, h2, _ => simp at h2
 simp only [List.length_append, List.length_cons, List.length_nil]
 dsimp only at h8 ⊢
 omega
theorem zmq (p : WP) : gpL (wG p) = wpL p := by
 show sg p.1 ++ [58] ++ (endL p.2.1 ++ [46, 46] ++ endL p.2.2) = _
 rfl
theorem zmr (p : PP) : gpL (pG p) = ppL p := rfl
theorem zlP (w : List WP) : genL (w.map wG) = zez w := by
 unfold genL zez
 rw [List.map_map, show gpL ∘ wG = wpL from funext zmq]
 by_cases h : w = []
 · subst h; rfl
 · rw [if_neg h, if_neg (fun z => h (List.map_eq_nil_iff.mp z))]
theorem zlQ (w : List PP) : genL (w.map pG) = zcF w := by
 unfold genL zcF
 rw [List.map_map, show gpL ∘ pG = ppL from funext zmr]
 by_cases h : w = []
 · subst h; rfl
 · rw [if_neg h, if_neg (fun z => h (List.map_eq_nil_iff.mp z))]
theorem WishAt.gen {H : Hp} {a : Addr} {w : List WP} (h : WishAt H a w) : GAt H a (w.map wG) := by
 obtain ⟨ps, rfl, h1, h2⟩ := h
 refine ⟨ps.map fun p => (p.1, wG p.2), by simp [Function.comp_def], by rw [h1]; simp [Function.comp_def], fun p hp => ?_⟩
 obtain ⟨q, hq, rfl⟩ := List.mem_map.mp hp
 exact h2 q hq
theorem PieceAt.gen {H : Hp} {a : Addr} {w : List PP} (h : PieceAt H a w) : GAt H a (w.map pG) := by
 obtain ⟨ps, rfl, h1, h2⟩ := h
 refine ⟨ps.map fun p => (p.1, pG p.2), by simp [Function.comp_def], by rw [h1]; simp [Function.comp_def], fun p hp => ?_⟩
 obtain ⟨q, hq, rfl⟩ := List.mem_map.mp hp
 exact h2 q hq
theorem WOk.gen {w : List WP} (h : WOk w) (hs : WSm w) : GOk (w.map wG) := by
 refine ⟨by rw [List.length_map]; exact h.len, fun p hp => ?_⟩
 obtain ⟨q, hq, rfl⟩ := List.mem_map.mp hp
 refine ⟨(h.ok q hq).1.eight, by show 2 ≤ 2; decide, fun o ho => ?_⟩
 have h1 := hs q hq
 have : SmO o := by
  rcases List.mem_cons.mp ho with rfl | ho
  · exact h1.1
  · rw [List.mem_singleton.mp ho]; exact h1.2
 exact ⟨zbA this, fun n e => (this n e).md⟩
theorem POk.gen {w : List PP} (h : POk w) (hs : PMd w) : GOk (w.map pG) := by
 refine ⟨by rw [List.length_map]; exact h.len, fun p hp => ?_⟩
 obtain ⟨q, hq, rfl⟩ := List.mem_map.mp hp
 refine ⟨(h.ok q hq).eight, by show 1 ≤ 2; decide, fun o ho => ?_⟩
 rw [List.mem_singleton.mp ho]
 exact ⟨zca (hs q hq), fun n e => by cases e; exact hs q hq⟩
theorem zlW (v : V) (xs : List V) : ¬ (HT.sIx (v :: xs).length 0 (some 1) = 0 ∧ HT.sIx (v :: xs).length (v :: xs).length none = (v :: xs).length) := by
 rw [show HT.sIx (v :: xs).length 0 (some 1) = min 1 (v :: xs).length from HT.sIx_nat _ _ 1, List.length_cons]
 omega
theorem zjd (v : V) (xs : List V) : cutV (v :: xs) (some 1) none = xs := by
 unfold cutV
 rw [show HT.sIx (v :: xs).length 0 (some 1) = min 1 (v :: xs).length from HT.sIx_nat _ _ 1, show HT.sIx (v :: xs).length (v :: xs).length none = (v :: xs).length from rfl, List.length_cons, show min 1 (xs.length + 1) = 1 by omega]
 show xs.take _ = xs
 rw [List.take_of_length_le (by omega)]
theorem GAt.same {H H' : Hp} {a : Addr} {w : List GP} (h : GAt H a w) (s : Same H H') : GAt H' a w := by
 obtain ⟨ps, e, h1, h2⟩ := h
 exact ⟨ps, e, s _ _ h1, fun p hp => s _ _ (h2 p hp)⟩
theorem PieceAt.same8 {H H' : Hp} {a : Addr} {w : List PP} (h : PieceAt H a w) (s : Same H H') : PieceAt H' a w := by
 obtain ⟨ps, e, h1, h2⟩ := h
 exact ⟨ps, e, s _ _ h1, fun p hp => s _ _ (h2 p hp)⟩
def eY : Option Int → DY
 | none => .non
 | some n => .int n
def dyP (p : GP) : DY := .tup (.str p.1 :: p.2.map eY)
def dyG (w : List GP) : DY := .tup (w.map dyP)
theorem zg9 {H : Hp} : ∀ es : List (Option Int), RepYs H (es.map eY) (es.map eV)
 | [] => by rw [List.map_nil, RepYs]; rfl
 | e :: es => by
  rw [List.map_cons, RepYs]
  refine ⟨_, _, rfl, ?_, zg9 es⟩
  cases e with
  | none => show RepY H .non _; rw [RepY]; rfl
  | some n => show RepY H (.int n) _; rw [RepY]; rfl
theorem zfo {H : Hp} : ∀ ps : List (Addr × GP), (∀ p ∈ ps, H p.1 = some (.tup (V.str p.2.1 :: p.2.2.map eV))) → (∀ p ∈ ps, p.2.1.length ≤ 8 ∧ p.2.2.length ≤ 2) → RepYs H ((ps.map (·.2)).map dyP) (ps.map fun p => V.ref p.1)
 | [], _, _ => by rw [List.map_nil, List.map_nil, RepYs]; rfl
 | p :: ps, h, g => by
  rw [List.map_cons, List.map_cons, RepYs]
  refine ⟨_, _, rfl, ?_, zfo ps (fun q hq => h q (List.mem_cons_of_mem _ hq)) fun q hq => g q (List.mem_cons_of_mem _ hq)⟩
  have h1 := h p (by simp)
  have h2 := g p (by simp)
  show RepY H (.tup (.str p.2.1 :: p.2.2.map eY)) _
  rw [RepY]
  refine ⟨p.1, _, rfl, h1, by rw [List.length_cons, List.length_map]; omega, ?_⟩
  rw [RepYs]
  exact ⟨_, _, rfl, by rw [RepY]; exact ⟨rfl, by omega⟩, zg9 _⟩
theorem repG {H : Hp} {a : Addr} {w : List GP} (h : GAt H a w) (ok : GOk w) : RepY H (dyG w) (.ref a) := by
 obtain ⟨ps, rfl, h1, h2⟩ := h
 unfold dyG
 rw [RepY]
 refine ⟨a, _, rfl, h1, by have := ok.len; rw [List.length_map]; omega, zfo ps h2 fun p hp => ?_⟩
 have := ok.ok p.2 (List.mem_map_of_mem hp)
 exact ⟨this.1, this.2.1⟩
theorem depG (w : List GP) : zaX (dyG w) ≤ 2 := by
 unfold dyG
 rw [zaX]
 have : zbu (w.map dyP) ≤ 1 := zde fun d hd => by
  obtain ⟨p, _, rfl⟩ := List.mem_map.mp hd
  unfold dyP
  rw [zaX]
  have : zbu (.str p.1 :: p.2.map eY) ≤ 0 := zde fun d hd => by
   rcases List.mem_cons.mp hd with rfl | hd
   · exact Nat.le_refl _
   · obtain ⟨o, _, rfl⟩ := List.mem_map.mp hd
     cases o <;> exact Nat.le_refl _
  omega
 omega
theorem zl7 (n : Int) : (decide ((10 : Int) ^ (15 : Int).toNat ≤ if n < 0 then -n else n)) = decide (¬ Sm n) := by
 have e : (10 : Int) ^ (15 : Int).toNat = 1000000000000000 := by decide
 rw [e]
 congr 1
 unfold Sm T15
 apply propext
 split <;> constructor <;> intro h <;> omega
theorem zkS {lo hi : Option Int} (h : Good lo hi) : SmO lo ∧ SmO hi := ⟨h.lo, h.hi⟩
def zdJ : Sp := fun vs H Q _ => ∃ (x : Str) (w : List PP), vs = [.str x] ∧ POk w ∧ PMd w ∧ ¬ PSm w ∧ sg x = zcF w ∧ ∀ H', Same H H' → Q (.bl true) H'
def Thing (H : Hp) (a : Addr) (size : Int) : Prop := (size = 3 ∧ ∃ w, WishAt H a w ∧ WOk w ∧ WSm w) ∨ (size = 2 ∧ ∃ w, PieceAt H a w ∧ POk w ∧ PMd w)
def zeH : Sp := fun vs H Q _ => ∃ (a : Addr) (size : Int), vs = [.ref a, .int size] ∧ Thing H a size ∧ ∀ H', Same H H' → Q (.bl true) H'
def zf7 : Sp := fun vs H Q _ => ∃ (b g l : Addr) (n size most : Int), vs = [.ref b, .int size, .int most] ∧ Bag H b g l n ∧ n ≤ 10 ^ 6 ∧ 0 ≤ most ∧ most ≤ 9 ∧ (size = 2 ∨ size = 3) ∧
 ∀ (r : Addr) (H' : Hp), Thing H' r size → Bag H' b g l (n + 400) → SameB b g H H' → Q (.ref r) H'
theorem Thing.keep {H H' : Hp} {a : Addr} {n : Int} (h : Thing H a n) (s : Tups H H') : Thing H' a n := by
 rcases h with ⟨e, w, h1, h2⟩ | ⟨e, w, ⟨ps, e1, e2, e3⟩, h2⟩
 · exact .inl ⟨e, w, h1.keep s, h2⟩
 · exact .inr ⟨e, w, ⟨ps, e1, s _ _ e2, fun p hp => s _ _ (e3 p hp)⟩, h2⟩
theorem Thing.same {H H' : Hp} {a : Addr} {n : Int} (h : Thing H a n) (s : Same H H') : Thing H' a n := h.keep s.tups
section
variable {K : PySem.W.Frag} {σ : St} {H : Hp} {Q : VK} {u u2 : Addr} {lo hi lo2 hi2 : Option Int}
theorem zkh (h1 : σ[9]? = some (some (.ref u))) (h2 : σ[10]? = some (some (.ref u2))) (e1 : H u = some (.tup [eV lo, eV hi])) (e2 : H u2 = some (.tup [eV lo2, eV hi2])) (q : Q (.bl (!zgU lo2 lo)) H) :
 zku (zkq (tOp (rIxT K) (tVar 10) (tC (V.int 0)))) (tOrV (tIsN (tOp (rIxT K) (tVar 9) (tC (V.int 0)))) (tOp (rI0 fun i j => V.bl (decide (i < j))) (tOp (rIxT K) (tVar 9) (tC (V.int 0))) (tOp (rIxT K) (tVar 10) (tC (V.int 0))))) σ H Q := by
 cases lo2 with
 | none => exact ⟨_, h2, u2, _, 0, _, rfl, rfl, SqT.of e2, rfl, _, rfl, iteF q⟩
 | some m =>
  refine ⟨_, h2, u2, _, 0, _, rfl, rfl, SqT.of e2, rfl, _, rfl, iteT ⟨_, h1, u, _, 0, _, rfl, rfl, SqT.of e1, rfl, _, rfl, ?_⟩⟩
  cases lo with
  | none => exact iteT q
  | some o =>
   refine iteF ⟨_, h1, u, _, 0, _, rfl, rfl, SqT.of e1, rfl, _, h2, u2, _, 0, _, rfl, rfl, SqT.of e2, rfl, _, _, rfl, rfl, ?_⟩
   have e : (!zgU (some m) (some o)) = decide (o < m) := by
    show (!decide (m ≤ o)) = decide (o < m)
    by_cases h : m ≤ o
    · rw [decide_eq_true h, decide_eq_false (by omega)]; rfl
    · rw [decide_eq_false h, decide_eq_true (by omega)]; rfl
   rw [e] at q
   exact q
theorem zjl (h1 : σ[9]? = some (some (.ref u))) (h2 : σ[10]? = some (some (.ref u2))) (e1 : H u = some (.tup [eV lo, eV hi])) (e2 : H u2 = some (.tup [eV lo2, eV hi2])) (q : Q (.bl (!upB hi2 hi)) H) :
 zku (zkq (tOp (rIxT K) (tVar 10) (tC (V.int 1)))) (tOrV (tIsN (tOp (rIxT K) (tVar 9) (tC (V.int 1)))) (tOp (rI0 fun i j => V.bl (decide (j < i))) (tOp (rIxT K) (tVar 9) (tC (V.int 1))) (tOp (rIxT K) (tVar 10) (tC (V.int 1))))) σ H Q := by
 cases hi2 with
 | none => exact ⟨_, h2, u2, _, 1, _, rfl, rfl, SqT.of e2, rfl, _, rfl, iteF q⟩
 | some m =>
  refine ⟨_, h2, u2, _, 1, _, rfl, rfl, SqT.of e2, rfl, _, rfl, iteT ⟨_, h1, u, _, 1, _, rfl, rfl, SqT.of e1, rfl, _, rfl, ?_⟩⟩
  cases hi with
  | none => exact iteT q
  | some o =>
   refine iteF ⟨_, h1, u, _, 1, _, rfl, rfl, SqT.of e1, rfl, _, h2, u2, _, 1, _, rfl, rfl, SqT.of e2, rfl, _, _, rfl, rfl, ?_⟩
   have e : (!upB (some m) (some o)) = decide (m < o) := by
    show (!decide (o ≤ m)) = decide (m < o)
    by_cases h : o ≤ m
    · rw [decide_eq_true h, decide_eq_false (by omega)]; rfl
    · rw [decide_eq_false h, decide_eq_true (by omega)]; rfl
   rw [e] at q
   exact q
end
theorem zfq (f : Str) (lo hi lo2 hi2 : Option Int) : zci [(f, lo2, hi2)] [(f, lo, hi)] = (zgU lo2 lo && upB hi2 hi) := by
 have e : zaH [(f, lo, hi)] f = some (lo, hi) := by simp [zaH]
 unfold zci
 rw [List.all_cons, List.all_nil, Bool.and_true, zcL (p := (f, lo2, hi2)) (s := (lo, hi)) e]
 rfl
def Bd (k : Int) (o : Option Int) : Prop := ∀ n, o = some n → -k ≤ n ∧ n ≤ k
theorem zfc {k : Int} (hk : 0 ≤ k) {lo hi : Option Int} (h1 : Bd k lo) (h2 : Bd k hi) : -k ≤ zdx lo hi ∧ zdx lo hi ≤ k := by
 cases lo with
 | some l => exact h1 l rfl
 | none =>
  cases hi with
  | some h => exact h2 h rfl
  | none => show -k ≤ (0 : Int) ∧ (0 : Int) ≤ k; omega
theorem zl1 {k : Int} {a b : Option Int} (h1 : Bd k a) (h2 : Bd k b) : Bd k (mHi a b) := by
 cases a with
 | none => exact h2
 | some x =>
  cases b with
  | none => exact h1
  | some y =>
   intro n e
   have e : (if y < x then y else x) = n := Option.some.inj e
   split at e
   · rw [← e]; exact h2 y rfl
   · rw [← e]; exact h1 x rfl
theorem zl0 {k : Int} {a b : Option Int} (h1 : Bd k a) (h2 : Bd k b) : Bd k (mLo a b) := by
 cases a with
 | none => exact h2
 | some x =>
  cases b with
  | none => exact h1
  | some y =>
   intro n e
   have e : (if x < y then y else x) = n := Option.some.inj e
   split at e
   · rw [← e]; exact h2 y rfl
   · rw [← e]; exact h1 x rfl
theorem zgZ {k : Int} (hk : 0 ≤ k) {lo hi lo2 hi2 : Option Int} (h1 : Bd k lo) (h2 : Bd k hi) (h3 : ∀ l, lo2 = some l → Bd k (some (l - 1))) (h4 : ∀ h, hi2 = some h → Bd k (some (h + 1))) : Bd k (zay lo hi lo2 hi2) := by
 have b1 : Bd k (zcc lo hi lo2) := by
  cases lo2 with
  | none => intro n e; cases e
  | some l =>
   intro n e
   by_cases ap : apart lo (mHi hi (some (l - 1))) = true
   · rw [zl5 ap] at e; cases e
   · rw [zl6 ap] at e
     rw [← Option.some.inj e]
     exact zfc hk h1 (zl1 h2 (h3 l rfl))
 have b2 : Bd k (zeb lo hi hi2) := by
  cases hi2 with
  | none => intro n e; cases e
  | some h =>
   intro n e
   by_cases ap : apart (mLo lo (some (h + 1))) hi = true
   · rw [zkZ ap] at e; cases e
   · rw [zk0 ap] at e
     rw [← Option.some.inj e]
     exact zfc hk (zl0 h1 (h4 h rfl)) h2
 cases e : zcc lo hi lo2 with
 | none => rw [zcO e]; exact b2
 | some n => rw [ziF e, ← e]; exact b1
theorem zkL {f : Str} {lo hi lo2 hi2 : Option Int} {E : Int} (hE : 0 ≤ E ∧ E < T15) (h1 : lo = none ∨ lo = some (0 - E)) (h2 : hi = none ∨ hi = some E) (h3 : lo2 = none ∨ lo2 = some (0 - E)) (h4 : hi2 = none ∨ hi2 = some E) :
 Md (zcX [(f, lo2, hi2)] (f, lo, hi)) := by
 have k1 : Bd T15 lo := by
  rcases h1 with rfl | rfl
  · intro n e; cases e
  · intro n e; cases e; omega
 have k2 : Bd T15 hi := by
  rcases h2 with rfl | rfl
  · intro n e; cases e
  · intro n e; cases e; omega
 have es : (zaH [(f, lo2, hi2)] f).getD (none, none) = (lo2, hi2) := by simp [zaH]
 have key : -T15 ≤ zcX [(f, lo2, hi2)] (f, lo, hi) ∧ zcX [(f, lo2, hi2)] (f, lo, hi) ≤ T15 := by
  have ba : Bd T15 (zay lo hi lo2 hi2) := by
   refine zgZ (by decide) k1 k2 (fun l e => ?_) fun h e => ?_
   · rcases h3 with z | z
     · rw [z] at e; cases e
     · rw [z] at e; cases e
       intro n e; cases e; omega
   · rcases h4 with z | z
     · rw [z] at e; cases e
     · rw [z] at e; cases e
       intro n e; cases e; omega
  cases en : zay lo hi lo2 hi2 with
  | none => rw [zd1 (p := (f, lo, hi)) (sp := (lo2, hi2)) es en]; exact zfc (by decide) k1 k2
  | some n => rw [zd0 (p := (f, lo, hi)) (sp := (lo2, hi2)) es en]; exact ba n en
 unfold Md T15 at *
 omega
end L2
set_option maxHeartbeats 4000000
namespace K78
open PySem PySem.Spec PyProof.Rows L2
def top (i : Nat) : Stmt := PySem.Challenge.pw_newsways_k78_wishes_and_pieces_written.main.body.getD i (.Pass ⟨0, 0, 0, 0⟩)
abbrev zcx : Stmt := top 6
abbrev zdz : Stmt := top 7
abbrev zcQ : Stmt := top 8
abbrev zbj : Stmt := top 9
abbrev zaP : Stmt := top 10
abbrev zb8 : Stmt := top 11
abbrev zbk : Stmt := top 12
abbrev zbY : Stmt := top 15
abbrev zbl : Stmt := top 16
abbrev za9 : Stmt := top 17
abbrev zaN : Stmt := top 18
abbrev zch : Stmt := top 19
abbrev zbX : Stmt := top 20
abbrev zbL : Stmt := top 21
abbrev zby : Stmt := top 22
abbrev zaL : Stmt := top 24
abbrev za5 : Stmt := top 26
abbrev zbh : Stmt := top 25
abbrev za7 : Stmt := top 23
abbrev zba : Stmt := top 33
abbrev zbM : Stmt := top 34
abbrev zcs : Stmt := top 35
abbrev zcr : Stmt := top 36
abbrev zbZ : Stmt := top 37
abbrev zb9 : Stmt := top 38
abbrev zdA : Stmt := top 39
abbrev zbi : Stmt := top 40
abbrev za6 : Stmt := top 41
abbrev zbE : Stmt := top 29
abbrev zbm : Stmt := top 30
abbrev zbF : Stmt := top 31
abbrev zbn : Stmt := top 32
abbrev zbW : Stmt := top 43
abbrev zcw : Stmt := top 44
abbrev zbK : Stmt := top 45
abbrev zcv : Stmt := top 46
abbrev zct : Stmt := top 47
abbrev zbg : Stmt := top 49
abbrev zbo : Stmt := top 50
abbrev zbV : Stmt := top 51
abbrev zcu : Stmt := top 52
abbrev za8 : Stmt := top 53
abbrev zbx : Stmt := top 54
abbrev zbG : Stmt := top 55
abbrev zgn : Stmt := top 56
def zeG (m : Nat) : Sp := fun vs H Q _ => ∃ (v v' : V) (d : DY), vs = [v, v'] ∧ m ≤ 9 ∧ RepY H d v ∧ RepY H d v' ∧ zaX d ≤ m ∧ ∀ H', Same H H' → Q (.bl true) H'
def zmn (s : Stmt) (i : Nat) : Stmt := match s with | .ClassDef _ _ _ b _ _ _ _ _ _ _ => b.getD i (.Pass ⟨0, 0, 0, 0⟩) | _ => s
abbrev zek : Stmt := zmn (top 1) 0
structure Kls (K : PySem.W.Frag) (mg : Str → Option Value) (fI cNoText : Addr) : Prop where
 ve : mg "ValueError" = none
 m_NoText : mg "NoText" = some (.ref cNoText)
 x_NoText : XCls K cNoText fI
 o_NoText : XOk K cNoText
 s_NoText : XSub K cNoText cNoText
section
variable {P : Program} {w : World} {K : PySem.W.Frag} {mg : Str → Option Value} {base : Heap}
theorem zkz : FnScope ["self", "text"] ["self", "text"] (zag zek) := ⟨rfl, rfl, rfl, by decide +kernel, rfl, by decide +kernel, by decide +kernel⟩
theorem zkJ {f : Addr} {fd : FuncData} (F : Fun K "__init__" "NewsError.__init__" zek f fd) (hv : mg "ValueError" = none) : FnOk P w K mg base CX0 1 f fd ["self", "text"] (zh9 K) := by
 refine F.ok zkz (fun vs H Q E h => ?_) (fun cdv A outer s H vs Q E hr h => ?_)
 · obtain ⟨e, C, v, rfl, _⟩ := h
   rfl
 obtain ⟨e, C, v, rfl, he, hC, q⟩ := h
 refine ⟨_, zah (zaM (zjC rfl hv (zaa (pv 0) (zaa (pv 1) zac)))), ?_⟩
 exact ⟨_, rfl, _, rfl, e, C, v, rfl, he, hC, q⟩
theorem scM {N P : List Str} {sc : Scope} (h1 : sc.kind = .function := by rfl) (h2 : sc.isCoroutine = false := by rfl) (h3 : sc.isGenerator = false := by rfl) (h4 : N.Nodup := by decide +kernel) (h5 : N.take P.length = P := by rfl) (h6 : ∀ x ∈ P, sc.names.lookup x = some .local ∨ sc.names.lookup x = some .cell := by decide +kernel) (h7 : ∀ y ∈ sc.names, y.2 ≠ .free := by decide +kernel) : FnScope N P sc := ⟨h1, h2, h3, h4, h5, h6, h7⟩
theorem zgj : FnScope ["thing"] ["thing"] (zag zcx) := scM
theorem zih : FnScope ["thing"] ["thing"] (zag zdz) := scM
theorem sc_is_span : FnScope ["thing", "low", "high"] ["thing"] (zag zcQ) := scM
theorem sc_span_reaches : FnScope ["one", "other", "low", "high", "other_low", "other_high", "reaches_down", "reaches_up"] ["one", "other"] (zag zbj) := scM
theorem sc_span_shared : FnScope ["one", "other", "low", "high"] ["one", "other"] (zag zaP) := scM
theorem sc_number_of : FnScope ["span", "low", "high"] ["span"] (zag zb8) := scM
theorem sc_number_apart : FnScope ["one", "other", "low", "high", "below", "above"] ["one", "other"] (zag zbk) := scM
theorem zgl : FnScope ["thing"] ["thing"] (zag zbY) := scM
theorem sc_is_wish_part : FnScope ["thing", "field", "low", "high"] ["thing"] (zag zbl) := scM
theorem sc_is_piece_part : FnScope ["thing", "field", "number"] ["thing"] (zag za9) := scM
theorem zdo : FnScope ["parts"] ["parts"] (zag zaN) := scM
theorem zhA : FnScope ["thing"] ["thing"] (zag zch) := scM
theorem zgk : FnScope ["thing"] ["thing"] (zag zbX) := scM
theorem zeQ : FnScope ["thing"] ["thing"] (zag zbL) := scM
theorem zec : FnScope ["thing"] ["thing"] (zag zby) := scM
theorem zc7 : FnScope ["wish"] ["wish"] (zag zaL) := scM
theorem sc_reaches_spans : FnScope ["one", "other_spans", "field", "low", "high"] ["one", "other_spans"] (zag za5) := scM
theorem zdO : FnScope ["one", "other"] ["one", "other"] (zag zbh) := scM
theorem sc_parting_piece : FnScope ["one", "other", "other_spans", "piece", "field", "low", "high", "number"] ["one", "other"] (zag za7) := scM
theorem zdp : FnScope ["holds"] ["holds"] (zag zba) := scM
theorem zeR : FnScope ["thing"] ["thing"] (zag zbM) := scM
theorem zgh : FnScope ["number"] ["number"] (zag zcs) := scM
theorem zgg : FnScope ["text"] ["text"] (zag zcr) := scM
theorem zgm : FnScope ["text", "most"] ["text", "most"] (zag zbZ) := scM
theorem zfm : FnScope ["text"] ["text"] (zag zb9) := scM
theorem zii : FnScope ["text"] ["text"] (zag zdA) := scM
theorem sc_wish_part_in : FnScope ["text", "field", "colon", "span", "low", "dots", "high"] ["text"] (zag zbi) := scM
theorem sc_piece_part_in : FnScope ["text", "field", "colon", "number"] ["text"] (zag za6) := scM
theorem sc_show_wish : FnScope ["wish", "parts"] ["wish"] (zag zbE) := scM
theorem sc_show_piece : FnScope ["piece", "parts"] ["piece"] (zag zbm) := scM
theorem sc_read_wish : FnScope ["text", "wish"] ["text"] (zag zbF) := scM
theorem sc_read_piece : FnScope ["text", "piece"] ["text"] (zag zbn) := scM
theorem sc_law_bag : FnScope ["script", "great", "lesser", "stir", "cell"] ["script"] (zag zbW) := scM
theorem sc_law_draw : FnScope ["bag", "many", "found", "cell"] ["bag", "many"] (zag zcw) := scM
theorem sc_law_number : FnScope ["bag", "choice", "number"] ["bag"] (zag zbK) := scM
theorem zgi : FnScope ["number"] ["number"] (zag zcv) := scM
theorem sc_law_span : FnScope ["bag", "choice", "low", "high"] ["bag"] (zag zct) := scM
theorem sc_law_field : FnScope ["bag", "choice", "some"] ["bag"] (zag zbg) := scM
theorem zeP : FnScope ["bag", "most"] ["bag", "most"] (zag zbo) := scM
theorem zdP : FnScope ["found", "due"] ["found", "due"] (zag zbV) := scM
theorem sc_law_made : FnScope ["bag", "size", "most", "parts", "field", "span"] ["bag", "size", "most"] (zag zcu) := scM
theorem sc_law_written : FnScope ["thing", "words", "part", "ends"] ["thing"] (zag za8) := scM
theorem sc_law_refused : FnScope ["text", "refused"] ["text"] (zag zbx) := scM
theorem sc_law_right : FnScope ["thing", "size", "text", "great"] ["thing", "size"] (zag zbG) := scM
theorem sc_law : FnScope ["script", "bag", "last", "turn", "size", "thing", "end", "field", "spans", "one", "other", "told", "below", "above"] ["script"] (zag zgn) := scM
section
variable (P : Program) (w : World) (K : PySem.W.Frag) (mg : Str → Option Value) (base : Heap)
abbrev Γ0 := FnH P w K mg base 1 "is_whole" ["thing"] (zfY K)
abbrev Γ1 := FnH P w K mg base 2 "is_end" ["thing"] (zkw K)
abbrev Γ4 := FnH P w K mg base 1 "span_shared" ["one", "other"] (zeF)
abbrev Γ5 := FnH P w K mg base 1 "number_of" ["span"] (zf5)
abbrev Γ7 := FnH P w K mg base 1 "is_field" ["thing"] (zf8)
abbrev Γ2 := FnH P w K mg base 3 "is_span" ["thing"] (zeK K)
abbrev Γ10 := FnH P w K mg base 1 "fields_ascend" ["parts"] (zeL)
abbrev Γ8 := FnH P w K mg base 4 "is_wish_part" ["thing"] (zc4)
abbrev Γ9 := FnH P w K mg base 2 "is_piece_part" ["thing"] (zcJ)
abbrev Γ11 := FnH P w K mg base 5 "is_wish" ["thing"] (zeJ)
abbrev Γ12 := FnH P w K mg base 3 "is_piece" ["thing"] (zdM)
abbrev Γ3 := FnH P w K mg base 1 "span_reaches" ["one", "other"] (zf4)
abbrev Γ16 := FnH P w K mg base 2 "reaches_spans" ["one", "other_spans"] (zdK)
abbrev Γ15 := FnH P w K mg base 1 "spans_by_field" ["wish"] (zdI)
abbrev Γ13 := FnH P w K mg base 6 "check_wish" ["thing"] (zdN)
abbrev Γ17 := FnH P w K mg base 3 "wish_reaches" ["one", "other"] (zcI)
abbrev Γ6 := FnH P w K mg base 2 "number_apart" ["one", "other"] (zgb)
abbrev Γ19 (cNoText : Addr) := FnHX P w K mg base 3 "check_written" ["holds"] (spCW cNoText)
abbrev Γ23 (cNoText : Addr) := FnHX P w K mg base 4 "count_in" ["text", "most"] (zga cNoText)
abbrev Γ24 (cNoText : Addr) := FnHX P w K mg base 5 "number_in" ["text"] (zf6 cNoText)
abbrev Γ25 := FnH P w K mg base 6 "end_in" ["text"] (zf9)
abbrev Γ21 := FnH P w K mg base 1 "show_end" ["number"] (zf1)
abbrev Γ14 := FnH P w K mg base 4 "check_piece" ["thing"] (zc6)
abbrev Γ20 := FnH P w K mg base 4 "check_text" ["thing"] (spCT)
abbrev Γ26 := FnH P w K mg base 7 "wish_part_in" ["text"] (zh6)
abbrev Γ22 := FnH P w K mg base 1 "words_in" ["text"] (zfX)
abbrev Γ27 (cNoText : Addr) := FnHX P w K mg base 6 "piece_part_in" ["text"] (zh8 cNoText)
abbrev Γ33 := FnH P w K mg base 1 "_law_draw" ["bag", "many"] (zib)
abbrev Γ34 := FnH P w K mg base 2 "_law_number" ["bag"] (zeI)
abbrev Γ35 := FnH P w K mg base 1 "_law_held" ["number"] (zia)
abbrev Γ37 := FnH P w K mg base 2 "_law_field" ["bag"] (zc5)
abbrev Γ38 := FnH P w K mg base 3 "_law_fields" ["bag", "most"] (zcK)
abbrev Γ36 := FnH P w K mg base 3 "_law_span" ["bag"] (zh7)
abbrev Γ31 (cNoText : Addr) := FnHX P w K mg base 7 "read_piece" ["text"] (zf3 cNoText)
abbrev Γ39 := FnH P w K mg base 11 "_law_same" ["found", "due"] (zg6 9 zeG)
abbrev Γ28 := FnH P w K mg base 7 "show_wish" ["wish"] (zfZ)
abbrev Γ29 := FnH P w K mg base 5 "show_piece" ["piece"] (zf0)
abbrev Γ42 := FnH P w K mg base 8 "_law_refused" ["text"] (zdJ)
abbrev Γ41 := FnH P w K mg base 1 "_law_written" ["thing"] (zdH)
abbrev Γ30 := FnH P w K mg base 8 "read_wish" ["text"] (zf2)
abbrev Γ32 := FnH P w K mg base 1 "_law_bag" ["script"] (zkx K)
abbrev Γ18 := FnH P w K mg base 7 "parting_piece" ["one", "other"] (zdL)
abbrev Γ40 := FnH P w K mg base 4 "_law_made" ["bag", "size", "most"] (zf7)
abbrev Γ43 := FnH P w K mg base 12 "_law_right" ["thing", "size"] (zeH)
end
theorem zq2 : 2 ≤ sizeLine := by decide
theorem zq3 : 3 ≤ sizeLine := by decide
variable {f : Addr} {fd : FuncData} (B : Bl mg) {fI cNoText : Addr} {fdI : FuncData} (Cl : Kls K mg fI cNoText) (F_init : FnOk P w K mg base CX0 1 fI fdI ["self", "text"] (zh9 K)) (b_init : Binds K fdI ["self", "text"] []) {t_MOST_LETTERS : Tok} (C_MOST_LETTERS : mg "MOST_LETTERS" = some (.int 8 t_MOST_LETTERS)) {t_MOST_FIGURES : Tok} (C_MOST_FIGURES : mg "MOST_FIGURES" = some (.int 15 t_MOST_FIGURES))
include B Cl F_init b_init C_MOST_LETTERS C_MOST_FIGURES
theorem zgC (F : Fun K "is_whole" "is_whole" zcx f fd)  : FnOk P w K mg base CX0 1 f fd ["thing"] (zfY K) := by
 refine F.ok zgj (fun vs H Q E h => ?_) (fun cdv A outer s H vs Q E hr h => ?_)
 · obtain ⟨v, t, rfl, hty, q⟩ := h
   rfl
 obtain ⟨v, t, rfl, hty, q⟩ := h
 refine ⟨_, (zah (zaj (zbP (zan (zas (n := "")) rfl B.isinstance_ zal (zaa (pv 0) (zaa (zaE (v := .ty "int") rfl B.int_ zho rfl) zac))) (zaT (zlu (zan (zas (n := "")) rfl B.isinstance_ zal (zaa (pv 0) (zaa (zaE (v := .ty "bool") rfl B.bool_ zgY rfl) zac)))))))), ?_⟩
 cases hty
 all_goals first
  | exact ⟨_, rfl, _, "int", "int", true, rfl, .int _, rfl, _, rfl, iteT ⟨_, rfl, _, "int", "bool", false, rfl, .int _, rfl, _, rfl, q⟩⟩
  | exact ⟨_, rfl, _, "bool", "int", true, rfl, .bl _, rfl, _, rfl, iteT ⟨_, rfl, _, "bool", "bool", true, rfl, .bl _, rfl, _, rfl, q⟩⟩
  | exact ⟨_, rfl, _, _, "int", false, rfl, (by first | exact .non | exact .str _ | exact .flt _ | (exact .lst (by assumption)) | (exact .frz (by assumption)) | (exact .tup (by assumption)) | (exact .dK (by assumption)) | (exact .dT (by assumption))), rfl, _, rfl, iteF q⟩
theorem ziz (F : Fun K "is_end" "is_end" zdz f fd) (G_is_whole : Γ0 P w K mg base) : FnOk P w K mg base CX0 2 f fd ["thing"] (zkw K) := by
 refine F.ok zih (fun vs H Q E h => ?_) (fun cdv A outer s H vs Q E hr h => ?_)
 · obtain ⟨v, t, rfl, hty, q⟩ := h
   rfl
 obtain ⟨v, t, rfl, hty, q⟩ := h
 refine ⟨_, (zah (zaj (zft (zbO (zb2 (pv 0))) (zaT (zao G_is_whole (hr.mono (by decide)) rfl (zaa (pv 0) zac)))))), ?_⟩
 refine ⟨_, rfl, _, rfl, ?_⟩
 cases hty
 case non => exact iteT q
 all_goals refine iteF ?_
 case int i => exact ⟨_, rfl, _, _, rfl, .int _, q⟩
 all_goals exact ⟨_, rfl, _, _, rfl, (by first | exact .bl _ | exact .str _ | exact .flt _ | (exact .lst (by assumption)) | (exact .frz (by assumption)) | (exact .tup (by assumption)) | (exact .dK (by assumption)) | (exact .dT (by assumption))), q⟩
theorem zhG (F : Fun K "is_span" "is_span" zcQ f fd) (G_is_end : Γ1 P w K mg base) : FnOk P w K mg base CX0 3 f fd ["thing"] (zeK K) := by
 refine F.ok sc_is_span (fun vs H Q E h => ?_) (fun cdv A outer s H vs Q E hr h => ?_)
 · obtain ⟨v, t, rfl, hty, hp, q⟩ := h
   rfl
 obtain ⟨v, t, rfl, hty, hp, q⟩ := h
 refine ⟨_, (zad (zaI (PW.pt (zdR (zaS (zaQ (zan (zas (n := "")) rfl B.isinstance_ zal (zaa (pv 0) (zaa (zaE (v := .ty "tuple") rfl B.tuple_ zbc rfl) zac))))) (zcE (zav zeX (zan zaO rfl B.len_ zc2 (zaa (pv 0) zac)) zaf (zau _))))) (zah (zaj zcN)) zaq)
  (zad (zb0 (pv 0) (zb1 rfl (zam (zai (i := 1) sc_is_span.nd rfl (Or.inl rfl)) (zam (zai (i := 2) sc_is_span.nd rfl (Or.inl rfl)) zaR))))
  (zad (zaI (PW.pt (zdR (zaS (zaQ (zao G_is_end (hr.mono (by decide)) rfl (zaa (pv 1) zac)))) (zcE (zaS (zaQ (zao G_is_end (hr.mono (by decide)) rfl (zaa (pv 2) zac))))))) (zah (zaj zcN)) zaq)
  (zah (zaj (zft (zbO (zb2 (pv 1))) (zft (zbO (zb2 (pv 2))) (zaT (zbr zgu (pv 1) (pv 2) (zau _)))))))))), ?_⟩
 have q0 : zbt H v = false → Q (.bl false) H := fun h => by rw [← h]; exact q
 cases hty
 case tup a xs e =>
  refine ⟨_, rfl, _, "tuple", "tuple", true, rfl, .tup e, rfl, _, rfl, iteF ⟨_, rfl, a, _, rfl, .inr (SqT.of e), rfl, _, rfl, ?_⟩⟩
  by_cases hl : xs.length = 2
  · match xs, hl with
    | [x, y], _ =>
     refine iteF ⟨_, rfl, a, _, rfl, SqT.of e, rfl, _, _, rfl, _, _, rfl, rfl, ?_⟩
     obtain ⟨t1, t2, h1, h2⟩ := hp a x y rfl e
     have es : zbt H (.ref a) = (endV x && endV y && leV x y) := by unfold zbt; simp only [e]
     rw [es] at q
     refine ⟨_, rfl, _, _, rfl, h1, _, rfl, ?_⟩
     cases ex : endV x with
     | false =>
      rw [ex] at q
      exact iteT q
     | true =>
      rw [ex] at q
      refine iteF ⟨_, rfl, _, _, rfl, h2, _, rfl, ?_⟩
      cases ey : endV y with
      | false =>
       rw [ey] at q
       exact iteT q
      | true =>
       rw [ey] at q
       refine iteF ⟨_, rfl, _, rfl, ?_⟩
       cases x with
       | non => exact iteT q
       | int i =>
        refine iteF ⟨_, rfl, _, rfl, ?_⟩
        cases y with
        | non => exact iteT q
        | int j => exact iteF ⟨_, rfl, _, rfl, _, _, rfl, rfl, q⟩
        | _ => exact absurd ey Bool.false_ne_true
       | _ => exact absurd ex Bool.false_ne_true
  · have es : zbt H (.ref a) = false := by
     unfold zbt
     simp only [e]
     match xs, hl with
     | [], _ => rfl
     | [_], _ => rfl
     | [_, _], h => exact absurd rfl h
     | _ :: _ :: _ :: _, _ => rfl
    have ed : (!decide (V.int ((xs.length : Nat) : Int) = V.int 2)) = true := by
     have : ¬ V.int ((xs.length : Nat) : Int) = V.int 2 := fun z => by injection z with z; omega
     rw [decide_eq_false this]
     rfl
    rw [es] at q
    show if (!decide (V.int ((xs.length : Nat) : Int) = V.int 2)) = true then _ else _
    rw [ed]
    exact iteT q
 case non => exact ⟨_, rfl, _, _, "tuple", false, rfl, .non, rfl, _, rfl, iteT (q0 rfl)⟩
 case bl b => exact ⟨_, rfl, _, _, "tuple", false, rfl, (.bl b), rfl, _, rfl, iteT (q0 rfl)⟩
 case int i => exact ⟨_, rfl, _, _, "tuple", false, rfl, (.int i), rfl, _, rfl, iteT (q0 rfl)⟩
 case str x => exact ⟨_, rfl, _, _, "tuple", false, rfl, (.str x), rfl, _, rfl, iteT (q0 rfl)⟩
 case flt x => exact ⟨_, rfl, _, _, "tuple", false, rfl, (.flt x), rfl, _, rfl, iteT (q0 rfl)⟩
 case lst a xs e => exact ⟨_, rfl, _, _, "tuple", false, rfl, (.lst e), rfl, _, rfl, iteT (q0 (by unfold zbt; simp only [e]))⟩
 case frz a o xs e => exact ⟨_, rfl, _, _, "tuple", false, rfl, (.frz e), rfl, _, rfl, iteT (q0 (by unfold zbt; simp only [e]))⟩
 case dK a kvs e => exact ⟨_, rfl, _, _, "tuple", false, rfl, (.dK e), rfl, _, rfl, iteT (q0 (by unfold zbt; simp only [e]))⟩
 case dT a kvs e => exact ⟨_, rfl, _, _, "tuple", false, rfl, (.dT e), rfl, _, rfl, iteT (q0 (by unfold zbt; simp only [e]))⟩
theorem zdX (F : Fun K "span_reaches" "span_reaches" zbj f fd)  : FnOk P w K mg base CX0 1 f fd ["one", "other"] (zf4) := by
 refine F.ok sc_span_reaches (fun vs H Q E h => ?_) (fun cdv A outer s H vs Q E hr h => ?_)
 · obtain ⟨v, w, lo, hi, lo2, hi2, rfl, S1, S2, q⟩ := h
   rfl
 obtain ⟨v, w, lo, hi, lo2, hi2, rfl, S1, S2, q⟩ := h
 refine ⟨_, (zad (zb0 (pv 0) (zb1 rfl (zam (zai (i := 2) sc_span_reaches.nd rfl (Or.inl rfl)) (zam (zai (i := 3) sc_span_reaches.nd rfl (Or.inl rfl)) zaR))))
  (zad (zb0 (pv 1) (zb1 rfl (zam (zai (i := 4) sc_span_reaches.nd rfl (Or.inl rfl)) (zam (zai (i := 5) sc_span_reaches.nd rfl (Or.inl rfl)) zaR))))
  (zad (zaw (i := 6) sc_span_reaches.nd rfl (Or.inl rfl) (zft (zbO (zb2 (pv 2))) (zaT (zbP (zbO (za0 (pv 4))) (zaT (zbr zgu (pv 2) (pv 4) (zau _)))))))
  (zad (zaw (i := 7) sc_span_reaches.nd rfl (Or.inl rfl) (zft (zbO (zb2 (pv 3))) (zaT (zbP (zbO (za0 (pv 5))) (zaT (zbr zgu (pv 5) (pv 3) (zau _)))))))
  (zah (zaj (zbP (pv 6) (zaT (pv 7))))))))), ?_⟩
 obtain ⟨a, rfl, e1⟩ := S1
 obtain ⟨c, rfl, e2⟩ := S2
 refine ⟨_, rfl, a, _, rfl, SqT.of e1, rfl, _, _, rfl, _, _, rfl, rfl, ?_⟩
 refine ⟨_, rfl, c, _, rfl, SqT.of e2, rfl, _, _, rfl, _, _, rfl, rfl, ?_⟩
 cases lo <;> cases lo2 <;> cases hi <;> cases hi2
 all_goals
  refine ⟨_, rfl, _, rfl, ?_⟩
  first
   | refine iteT ?_
   | (refine iteF ⟨_, rfl, _, rfl, ?_⟩; first | refine iteF ?_ | refine iteT ⟨_, rfl, _, rfl, _, _, rfl, rfl, ?_⟩)
  refine ⟨_, rfl, _, rfl, ?_⟩
  first
   | refine iteT ?_
   | (refine iteF ⟨_, rfl, _, rfl, ?_⟩; first | refine iteF ?_ | refine iteT ⟨_, rfl, _, rfl, _, _, rfl, rfl, ?_⟩)
  refine ⟨_, rfl, _, rfl, ?_⟩
  first
   | exact iteF q
   | exact iteT ⟨_, rfl, q⟩
   | exact ite2 (fun h => ⟨_, rfl, by rw [zem, zgU, h] at q; exact q⟩) (fun h => by rw [zem, zgU, Bool.eq_false_iff.mpr h] at q; exact q)
theorem zed (F : Fun K "span_shared" "span_shared" zaP f fd)  : FnOk P w K mg base CX0 1 f fd ["one", "other"] (zeF) := by
 refine F.ok sc_span_shared (fun vs H Q E h => ?_) (fun cdv A outer s H vs Q E hr h => ?_)
 · obtain ⟨v, w, lo, hi, lo2, hi2, rfl, S1, S2, q⟩ := h
   rfl
 obtain ⟨v, w, lo, hi, lo2, hi2, rfl, S1, S2, q⟩ := h
 refine ⟨_, (zad (zaw (i := 2) sc_span_shared.nd rfl (Or.inl rfl) (zfu (zjg rfl) rfl B.max_ zjk (zaa (zdq (N' := ["end"]) (js := [none]) rfl (zb5 (N := ["one", "other", "low", "high"]) (outer := zag zaP) (by decide +kernel)) (zce (zaz (zaa (zaA zaW (pv 0) zaf (fun _ _ => rfl)) (zaa (zaA zaW (pv 1) zaf (fun _ _ => rfl)) zac)))) (fun _ _ _ _ _ => (zai (i := 0) (show List.Nodup (["end"] : List Str) by decide +kernel) rfl (Or.inl rfl))) (fun _ _ _ _ _ => zcU (zbH (za0 (pv 0)))) (fun _ _ _ _ _ => (pv 0))) zac) (ziq zbd zj4)))
  (zad (zaw (i := 3) sc_span_shared.nd rfl (Or.inl rfl) (zfu (zjf rfl) rfl B.min_ zjj (zaa (zdq (N' := ["end"]) (js := [none]) rfl (zb5 (N := ["one", "other", "low", "high"]) (outer := zag zaP) (by decide +kernel)) (zce (zaz (zaa (zaA zaW (pv 0) zaf (fun _ _ => rfl)) (zaa (zaA zaW (pv 1) zaf (fun _ _ => rfl)) zac)))) (fun _ _ _ _ _ => (zai (i := 0) (show List.Nodup (["end"] : List Str) by decide +kernel) rfl (Or.inl rfl))) (fun _ _ _ _ _ => zcU (zbH (za0 (pv 0)))) (fun _ _ _ _ _ => (pv 0))) zac) (ziq zbd zj4)))
  (zad (zaI (PW.pt (zfr (zbH (za0 (pv 2))) (zfr (zbH (za0 (pv 3))) (zeU (zav zlx (pv 2) (pv 3) (zau _)))))) (zah (zaj zbd)) zaq)
  (zah (zaj (zaz (zaa (pv 2) (zaa (pv 3) zac)))))))), ?_⟩
 obtain ⟨a, rfl, e1⟩ := S1
 obtain ⟨c, rfl, e2⟩ := S2
 refine ⟨_, rfl, a, _, 0, _, rfl, rfl, SqT.of e1, rfl, _, rfl, c, _, 0, _, rfl, rfl, SqT.of e2, rfl, zq2, fun t ht => ⟨t, rfl, ⟨_, SqT.of zab⟩, fun p hp => ?_⟩⟩
 refine ziN (os := [lo, lo2]) (cap := []) Option.isSome (by simp) (SqT.of zab) hp ?_ ?_ ?_ ?_ ?_
 · rfl
 · exact fun s => s.seqT (SqT.of zab)
 · exact fun o H' R s r => ⟨_, rfl, _, rfl, by rw [zfF]; exact r⟩
 · exact fun o H' R s r => ⟨_, rfl, r⟩
 intro H1 s1 h1
 obtain ⟨ns, n1, n2⟩ := zjR lo lo2
 rw [n1] at h1
 refine ⟨p, ns, .non, rfl, rfl, SqL.of h1, ?_⟩
 rw [n2]
 have s2 : Same H H1 := (zae ht _).trans s1
 clear n1 n2 h1 hp s1 ht
 refine ⟨_, rfl, a, _, 1, _, rfl, rfl, SqT.of (s2 _ _ e1), rfl, _, rfl, c, _, 1, _, rfl, rfl, SqT.of (s2 _ _ e2), rfl, zq2, fun t ht => ⟨t, rfl, ⟨_, SqT.of zab⟩, fun p hp => ?_⟩⟩
 refine ziN (os := [hi, hi2]) (cap := []) Option.isSome (by simp) (SqT.of zab) hp ?_ ?_ ?_ ?_ ?_
 · rfl
 · exact fun s => s.seqT (SqT.of zab)
 · exact fun o H' R s r => ⟨_, rfl, _, rfl, by rw [zfF]; exact r⟩
 · exact fun o H' R s r => ⟨_, rfl, r⟩
 intro H3 s3 h1
 obtain ⟨ns, n1, n2⟩ := zjQ hi hi2
 rw [n1] at h1
 refine ⟨p, ns, .non, rfl, rfl, SqL.of h1, ?_⟩
 rw [n2]
 have s4 : Same H H3 := s2.trans ((zae ht _).trans s3)
 clear n1 n2 h1 hp s3 ht
 have fin : apart (mLo lo lo2) (mHi hi hi2) = false → ∀ r, H3 r = none → Q (.ref r) (upd H3 r (.tup [eV (mLo lo lo2), eV (mHi hi hi2)])) := fun h r hr => by
  refine q _ _ (s4.trans (zae hr _)) ?_
  unfold zhX
  rw [h]
  exact iteF ⟨r, rfl, zab⟩
 refine ⟨_, rfl, _, rfl, ?_⟩
 cases e5 : mLo lo lo2 with
 | none =>
  rw [e5] at fin
  exact iteF ⟨_, rfl, _, rfl, zq2, fin rfl⟩
 | some x =>
  refine iteT ⟨_, rfl, _, rfl, ?_⟩
  cases e6 : mHi hi hi2 with
  | none =>
   rw [e5, e6] at fin
   exact iteF ⟨_, rfl, _, rfl, zq2, fin rfl⟩
  | some y =>
   refine iteT ⟨_, rfl, _, rfl, _, _, rfl, rfl, _, rfl, ?_⟩
   rw [e5, e6] at fin
   refine ite2 (fun h => q _ _ s4 ?_) (fun h => ⟨_, rfl, _, rfl, zq2, fin (Bool.eq_false_iff.mpr h)⟩)
   unfold zhX
   rw [e5, e6]
   exact (if_pos h).symm ▸ rfl
theorem zfx (F : Fun K "number_of" "number_of" zb8 f fd)  : FnOk P w K mg base CX0 1 f fd ["span"] (zf5) := by
 refine F.ok sc_number_of (fun vs H Q E h => ?_) (fun cdv A outer s H vs Q E hr h => ?_)
 · obtain ⟨v, lo, hi, rfl, S1, q⟩ := h
   rfl
 obtain ⟨v, lo, hi, rfl, S1, q⟩ := h
 refine ⟨_, (zad (zb0 (pv 0) (zb1 rfl (zam (zai (i := 1) sc_number_of.nd rfl (Or.inl rfl)) (zam (zai (i := 2) sc_number_of.nd rfl (Or.inl rfl)) zaR))))
  (zad (zaI (zbH (za0 (pv 1))) (zah (zaj (pv 1))) zaq)
  (zad (zaI (zbH (za0 (pv 2))) (zah (zaj (pv 2))) zaq)
  (zah (zaj zaf))))), ?_⟩
 obtain ⟨a, rfl, e1⟩ := S1
 refine ⟨_, rfl, a, _, rfl, SqT.of e1, rfl, _, _, rfl, _, _, rfl, rfl, ?_⟩
 cases lo with
 | some l => exact ⟨_, rfl, _, rfl, iteT ⟨_, rfl, q⟩⟩
 | none =>
  cases hi with
  | none => exact ⟨_, rfl, _, rfl, iteF ⟨_, rfl, _, rfl, iteF q⟩⟩
  | some h => exact ⟨_, rfl, _, rfl, iteF ⟨_, rfl, _, rfl, iteT ⟨_, rfl, q⟩⟩⟩
theorem zdY (F : Fun K "number_apart" "number_apart" zbk f fd) (G_span_shared : Γ4 P w K mg base) (G_number_of : Γ5 P w K mg base) : FnOk P w K mg base CX0 2 f fd ["one", "other"] (zgb) := by
 refine F.ok sc_number_apart (fun vs H Q E h => ?_) (fun cdv A outer s H vs Q E hr h => ?_)
 · obtain ⟨v, w', lo, hi, lo2, hi2, rfl, S1, S2, q⟩ := h
   rfl
 obtain ⟨v, w', lo, hi, lo2, hi2, rfl, S1, S2, q⟩ := h
 refine ⟨_, (zad (zb0 (pv 1) (zb1 rfl (zam (zai (i := 2) sc_number_apart.nd rfl (Or.inl rfl)) (zam (zai (i := 3) sc_number_apart.nd rfl (Or.inl rfl)) zaR))))
  (zad (zaI (zbH (za0 (pv 2))) (zad (zaw (i := 4) sc_number_apart.nd rfl (Or.inl rfl) (zao G_span_shared (hr.mono (by decide)) rfl (zaa (pv 0) (zaa (zaz (zaa zbd (zaa (zax zbQ (pv 2) zaf) zac))) zac))))
  (zah (zaI (zbH (za0 (pv 4))) (zah (zaj (zao G_number_of (hr.mono (by decide)) rfl (zaa (pv 4) zac)))) zaq))) zaq)
  (zad (zaI (zbH (za0 (pv 3))) (zad (zaw (i := 5) sc_number_apart.nd rfl (Or.inl rfl) (zao G_span_shared (hr.mono (by decide)) rfl (zaa (pv 0) (zaa (zaz (zaa (zax zbR (pv 3) zaf) (zaa zbd zac))) zac))))
  (zah (zaI (zbH (za0 (pv 5))) (zah (zaj (zao G_number_of (hr.mono (by decide)) rfl (zaa (pv 5) zac)))) zaq))) zaq)
  (zah (zaj zbd))))), ?_⟩
 have q' : ∀ r, zay lo hi lo2 hi2 = r → ∀ H', Same H H' → Q (eV r) H' := fun r e H' s => by rw [← e]; exact q H' s
 obtain ⟨c, rfl, e2⟩ := S2
 refine ⟨_, rfl, c, _, rfl, SqT.of e2, rfl, _, _, rfl, _, _, rfl, rfl, ?_⟩
 cases lo2 with
 | none =>
  refine ⟨_, rfl, _, rfl, iteF ?_⟩
  have hb : zcc lo hi none = none := rfl
  have t1 : Same H H := Same.refl _
  cases hi2 with
  | none =>
   have e0 : zay lo hi none none = none := zcO hb
   exact ⟨_, rfl, _, rfl, iteF (q' _ e0 _ t1)⟩
  | some h =>
   refine ⟨_, rfl, _, rfl, iteT ⟨_, rfl, _, rfl, _, _, rfl, rfl, zq2, fun u hu => ?_⟩⟩
   have su := zae hu (.tup [V.int (h + 1), V.non])
   refine ⟨v, .ref u, lo, hi, some (h + 1), none, rfl, S1.same (t1.trans su), ⟨u, rfl, zab⟩, fun v3 H3 s3 m3 => ?_⟩
   have t3 := t1.trans (su.trans s3)
   unfold zhX at m3
   rw [zhi] at m3
   by_cases ap : apart (mLo lo (some (h + 1))) hi = true
   · rw [if_pos ap] at m3
     subst m3
     have e0 : zay lo hi none (some h) = none := (zcO hb).trans (zkZ ap)
     exact ⟨_, rfl, _, rfl, iteF (q' _ e0 _ t3)⟩
   · rw [if_neg ap] at m3
     have e0 : zay lo hi none (some h) = some (zdx (mLo lo (some (h + 1))) hi) := (zcO hb).trans (zk0 ap)
     obtain ⟨b3, rfl, e3⟩ := m3
     exact ⟨_, rfl, _, rfl, iteT ⟨_, rfl, _, _, _, rfl, ⟨b3, rfl, e3⟩, q' _ e0 _ t3⟩⟩
 | some l =>
  refine ⟨_, rfl, _, rfl, iteT ⟨_, rfl, _, rfl, _, _, rfl, rfl, zq2, fun t ht => ?_⟩⟩
  have st := zae ht (.tup [V.non, V.int (l - 1)])
  refine ⟨v, .ref t, lo, hi, none, some (l - 1), rfl, S1.same st, ⟨t, rfl, zab⟩, fun v2 H2 s2 m2 => ?_⟩
  have t1 : Same H H2 := st.trans s2
  unfold zhX at m2
  rw [zjJ] at m2
  by_cases ap0 : apart lo (mHi hi (some (l - 1))) = true
  · rw [if_pos ap0] at m2
    subst m2
    have hb : zcc lo hi (some l) = none := zl5 ap0
    refine ⟨_, rfl, _, rfl, iteF ?_⟩
    cases hi2 with
    | none =>
     have e0 : zay lo hi (some l) none = none := zcO hb
     exact ⟨_, rfl, _, rfl, iteF (q' _ e0 _ t1)⟩
    | some h =>
     refine ⟨_, rfl, _, rfl, iteT ⟨_, rfl, _, rfl, _, _, rfl, rfl, zq2, fun u hu => ?_⟩⟩
     have su := zae hu (.tup [V.int (h + 1), V.non])
     refine ⟨v, .ref u, lo, hi, some (h + 1), none, rfl, S1.same (t1.trans su), ⟨u, rfl, zab⟩, fun v3 H3 s3 m3 => ?_⟩
     have t3 := t1.trans (su.trans s3)
     unfold zhX at m3
     rw [zhi] at m3
     by_cases ap : apart (mLo lo (some (h + 1))) hi = true
     · rw [if_pos ap] at m3
       subst m3
       have e0 : zay lo hi (some l) (some h) = none := (zcO hb).trans (zkZ ap)
       exact ⟨_, rfl, _, rfl, iteF (q' _ e0 _ t3)⟩
     · rw [if_neg ap] at m3
       have e0 : zay lo hi (some l) (some h) = some (zdx (mLo lo (some (h + 1))) hi) := (zcO hb).trans (zk0 ap)
       obtain ⟨b3, rfl, e3⟩ := m3
       exact ⟨_, rfl, _, rfl, iteT ⟨_, rfl, _, _, _, rfl, ⟨b3, rfl, e3⟩, q' _ e0 _ t3⟩⟩
  · rw [if_neg ap0] at m2
    have e0 : zay lo hi (some l) hi2 = some (zdx lo (mHi hi (some (l - 1)))) := ziF (zl6 ap0)
    obtain ⟨b2, rfl, e3⟩ := m2
    exact ⟨_, rfl, _, rfl, iteT ⟨_, rfl, _, _, _, rfl, ⟨b2, rfl, e3⟩, q' _ e0 _ t1⟩⟩
theorem zgE (F : Fun K "is_field" "is_field" zbY f fd)  : FnOk P w K mg base CX0 1 f fd ["thing"] (zf8) := by
 refine F.ok zgl (fun vs H Q E h => ?_) (fun cdv A outer s H vs Q E hr h => ?_)
 · obtain ⟨x, rfl, F1, q⟩ := h
   rfl
 obtain ⟨x, rfl, F1, q⟩ := h
 refine ⟨_, (zad (zaI (PW.pt (zdR (zaS (zaQ (zan (zas (n := "")) rfl B.isinstance_ zal (zaa (pv 0) (zaa (zaE (v := .ty "str") rfl B.str_ zea rfl) zac))))) (zcE (zaS (zjy zgu zgu zaf (zan zdm rfl B.len_ zc2 (zaa (pv 0) zac)) (zgr (v := .int 8) rfl C_MOST_LETTERS ⟨_, rfl⟩)))))) (zah (zaj zcN)) zaq)
  (zah (zaj (zan (zcD rfl) rfl B.all_ zew (zaa (zdq (N' := ["sign"]) (js := [none]) rfl (zb5 (N := ["thing"]) (outer := zag zbY) (by decide +kernel)) (zj6 (pv 0)) (fun _ _ _ _ _ => (zai (i := 0) (show List.Nodup (["sign"] : List Str) by decide +kernel) rfl (Or.inl rfl))) (fun _ _ _ _ _ => zaJ) (fun _ _ _ _ _ => (zeW zcW zcW zaG (pv 0) zaG))) zac))))), ?_⟩
 have l1 : (1 : Int) ≤ (x.length : Int) := by have := F1.one; omega
 have l8 : (x.length : Int) ≤ 8 := by have := F1.eight; omega
 refine ⟨_, rfl, _, "str", "str", true, rfl, .str x, rfl, _, rfl, iteF ⟨_, rfl, x, rfl, zgd (by have := F1.eight; omega), _, _, rfl, rfl, _, rfl, ?_⟩⟩
 rw [decide_eq_true l1]
 refine iteT ⟨_, _, rfl, rfl, _, rfl, ?_⟩
 rw [decide_eq_true l8]
 refine iteF ⟨_, rfl, x, rfl, fun p hp => ?_⟩
 have s0 := zae hp (.lst [])
 have sl : (L2.signs x).length = x.length := by unfold L2.signs; rw [List.length_map, Array.length_toList]; rfl
 refine zkc (xs := L2.signs x) (fun i σ' ys H' => (∃ v, σ' = [v]) ∧ Same H H' ∧ H' p = some (.lst ys) ∧ ys = List.replicate i (V.bl true)) ⟨⟨none, rfl⟩, s0, zab, rfl⟩ ?_ ?_ ?_
 · rintro i σ' ys H' hi ⟨_, _, h1, h2⟩
   refine ⟨h1, ?_⟩
   rw [h2, List.length_replicate]
   have := F1.eight
   exact zap (by omega)
 · rintro i y σ' ys H' N hy ⟨⟨v, rfl⟩, s, h1, h2⟩ hN
   unfold L2.signs at hy
   rw [List.getElem?_map] at hy
   cases hc : x.cps.toList[i]? with
   | none => rw [hc] at hy; cases hy
   | some c =>
    rw [hc] at hy
    obtain rfl : V.str ⟨#[c]⟩ = y := Option.some.inj hy
    have ok := F1.all c (List.mem_of_getElem? hc)
    refine ⟨_, rfl, _, _, rfl, rfl, _, rfl, ?_⟩
    rw [ge_a ok]
    refine iteT ⟨_, _, rfl, rfl, ?_⟩
    rw [le_z ok]
    refine ⟨h1, hN _ _ _ ⟨⟨_, rfl⟩, ?_, zab, by rw [h2]; exact List.replicate_succ'.symm⟩⟩
    intro b o q'
    have : b ≠ p := fun z => by rw [z, hp] at q'; cases q'
    rw [zak this]
    exact s b o q'
 · rintro σ' ys H' ⟨_, s, h1, h2⟩
   refine ⟨p, List.replicate (L2.signs x).length true, rfl, SqL.of (by rw [h1, h2, List.map_replicate]), ?_⟩
   have : (List.replicate (L2.signs x).length true).all id = true := by simp
   rw [this]
   exact q H' s
theorem zdZ (F : Fun K "is_wish_part" "is_wish_part" zbl f fd) (G_is_field : Γ7 P w K mg base) (G_is_span : Γ2 P w K mg base) : FnOk P w K mg base CX0 4 f fd ["thing"] (zc4) := by
 refine F.ok sc_is_wish_part (fun vs H Q E h => ?_) (fun cdv A outer s H vs Q E hr h => ?_)
 · obtain ⟨p, f, lo, hi, rfl, hp, F1, hle, q⟩ := h
   rfl
 obtain ⟨p, f, lo, hi, rfl, hp, F1, hle, q⟩ := h
 refine ⟨_, (zad (zaI (PW.pt (zdR (zaS (zaQ (zan (zas (n := "")) rfl B.isinstance_ zal (zaa (pv 0) (zaa (zaE (v := .ty "tuple") rfl B.tuple_ zbc rfl) zac))))) (zcE (zav zeX (zan zaO rfl B.len_ zc2 (zaa (pv 0) zac)) zaf (zau _))))) (zah (zaj zcN)) zaq)
  (zad (zb0 (pv 0) (zb1 rfl (zam (zai (i := 1) sc_is_wish_part.nd rfl (Or.inl rfl)) (zam (zai (i := 2) sc_is_wish_part.nd rfl (Or.inl rfl)) (zam (zai (i := 3) sc_is_wish_part.nd rfl (Or.inl rfl)) zaR)))))
  (zah (zaj (zbP (zao G_is_field (hr.mono (by decide)) rfl (zaa (pv 1) zac)) (zaT (zao G_is_span (hr.mono (by decide)) rfl (zaa (zaz (zaa (pv 2) (zaa (pv 3) zac))) zac)))))))), ?_⟩
 refine ⟨_, rfl, _, "tuple", "tuple", true, rfl, .tup hp, rfl, _, rfl, iteF ⟨_, rfl, p, _, rfl, .inr (SqT.of hp), rfl, _, rfl, ?_⟩⟩
 refine iteF ⟨_, rfl, p, _, rfl, SqT.of hp, rfl, _, _, rfl, _, _, rfl, _, _, rfl, rfl, ?_⟩
 refine ⟨_, rfl, f, rfl, F1, fun H1 s1 => ⟨_, rfl, iteT ⟨_, rfl, _, rfl, zq2, fun t ht => ?_⟩⟩⟩
 have S : SpanAt (upd H1 t (.tup [eV lo, eV hi])) (.ref t) lo hi := ⟨t, rfl, zab⟩
 refine ⟨.ref t, "tuple", rfl, S.ty.1, S.ty.2, ?_⟩
 rw [zi0 S, hle]
 exact q _ (s1.trans (zae ht _))
theorem zdu (F : Fun K "is_piece_part" "is_piece_part" za9 f fd) (G_is_field : Γ7 P w K mg base) (G_is_whole : Γ0 P w K mg base) : FnOk P w K mg base CX0 2 f fd ["thing"] (zcJ) := by
 refine F.ok sc_is_piece_part (fun vs H Q E h => ?_) (fun cdv A outer s H vs Q E hr h => ?_)
 · obtain ⟨p, f, n, rfl, hp, F1, q⟩ := h
   rfl
 obtain ⟨p, f, n, rfl, hp, F1, q⟩ := h
 refine ⟨_, (zad (zaI (PW.pt (zdR (zaS (zaQ (zan (zas (n := "")) rfl B.isinstance_ zal (zaa (pv 0) (zaa (zaE (v := .ty "tuple") rfl B.tuple_ zbc rfl) zac))))) (zcE (zav zeX (zan zaO rfl B.len_ zc2 (zaa (pv 0) zac)) zaf (zau _))))) (zah (zaj zcN)) zaq)
  (zad (zb0 (pv 0) (zb1 rfl (zam (zai (i := 1) sc_is_piece_part.nd rfl (Or.inl rfl)) (zam (zai (i := 2) sc_is_piece_part.nd rfl (Or.inl rfl)) zaR))))
  (zah (zaj (zbP (zao G_is_field (hr.mono (by decide)) rfl (zaa (pv 1) zac)) (zaT (zao G_is_whole (hr.mono (by decide)) rfl (zaa (pv 2) zac)))))))), ?_⟩
 refine ⟨_, rfl, _, "tuple", "tuple", true, rfl, .tup hp, rfl, _, rfl, iteF ⟨_, rfl, p, _, rfl, .inr (SqT.of hp), rfl, _, rfl, ?_⟩⟩
 refine iteF ⟨_, rfl, p, _, rfl, SqT.of hp, rfl, _, _, rfl, _, _, rfl, rfl, ?_⟩
 exact ⟨_, rfl, f, rfl, F1, fun H1 s1 => ⟨_, rfl, iteT ⟨_, rfl, .int n, "int", rfl, .int n, q _ s1⟩⟩⟩
theorem zdv (F : Fun K "fields_ascend" "fields_ascend" zaN f fd)  : FnOk P w K mg base CX0 1 f fd ["parts"] (zeL) := by
 refine F.ok zdo (fun vs H Q E h => ?_) (fun cdv A outer s H vs Q E hr h => ?_)
 · obtain ⟨a, ps, rfl, ha, hl, hp, hlt, q⟩ := h
   rfl
 obtain ⟨a, ps, rfl, ha, hl, hp, hlt, q⟩ := h
 refine ⟨_, (zah (zaj (zan (zcD rfl) rfl B.all_ zew (zaa (zdq (N' := ["ahead", "behind"]) (js := [none, none]) rfl (zb5 (N := ["parts"]) (outer := zag zaN) (by decide +kernel)) (zlq rfl B.zip_ (zaa (pv 0) (zaa (zcV zid (pv 0) (zdS zaf) zdT) zac))) (fun _ _ _ _ _ => (zeV K rfl (n := 2) rfl (zam (zai (i := 0) (show List.Nodup (["ahead", "behind"] : List Str) by decide +kernel) rfl (Or.inl rfl)) (zam (zai (i := 1) (show List.Nodup (["ahead", "behind"] : List Str) by decide +kernel) rfl (Or.inl rfl)) zaR)))) (fun _ _ _ _ _ => zaJ) (fun _ _ _ _ _ => (zbr ziy (zaA (zgP K rfl) (pv 0) zaf (fun _ _ => rfl)) (zaA (zgP K rfl) (pv 1) zaf (fun _ _ => rfl)) (zau _)))) zac)))), ?_⟩
 refine ⟨_, rfl, _, rfl, _, rfl, ?_⟩
 dsimp only [zh2]
 refine zky (SqT.of ha) fun p1 H1 s1 q1 => ?_
 refine ⟨a, p1, rfl, ⟨_, s1.seqT (SqT.of ha)⟩, ⟨_, q1⟩, fun p hp' => ?_⟩
 have s0 := zae hp' (.lst [])
 have ld : ((ps.map fun p => V.ref p.1).drop 1).length = ps.length - 1 := by rw [List.length_drop, List.length_map]
 refine zlG (n := ps.length - 1) (xs := ps.map fun p => V.ref p.1) (ys := (ps.map fun p => V.ref p.1).drop 1) (by rw [List.length_map]; omega) (by rw [ld]; exact Nat.le_refl _) (.inr (by rw [ld]; exact Nat.le_refl _))
  (fun i σ' ys H' => (∃ v w, σ' = [v, w]) ∧ Same H1 H' ∧ H' p = some (.lst ys) ∧ ys = List.replicate i (V.bl true)) ⟨⟨none, none, rfl⟩, s0, zab, rfl⟩ ?_ ?_ ?_
 · rintro i σ' zs H' hi ⟨_, s, h1, h2⟩
   refine ⟨(s1.trans s).seqT (SqT.of ha), s.seqT q1, h1, ?_⟩
   rw [h2, List.length_replicate]
   exact zap (by omega)
 · rintro i x y σ' zs H' r N hx hy hr' ⟨⟨v, w', rfl⟩, s, h1, h2⟩ hN
   rw [List.getElem?_map] at hx
   rw [List.getElem?_drop, List.getElem?_map, Nat.add_comm] at hy
   cases e1 : ps[i]? with
   | none => rw [e1] at hx; cases hx
   | some P1 =>
    cases e2 : ps[i + 1]? with
    | none => rw [e2] at hy; cases hy
    | some P2 =>
     rw [e1] at hx
     rw [e2] at hy
     obtain rfl : V.ref P1.1 = x := Option.some.inj hx
     obtain rfl : V.ref P2.1 = y := Option.some.inj hy
     have s3 := zae hr' (.tup [V.ref P1.1, V.ref P2.1])
     have t3 := (s1.trans s).trans s3
     have f1 := t3 _ _ (hp P1 (List.mem_of_getElem? e1))
     have f2 := t3 _ _ (hp P2 (List.mem_of_getElem? e2))
     refine ⟨r, _, rfl, SqT.of zab, rfl, _, _, rfl, _, _, rfl, rfl, ?_⟩
     refine ⟨_, rfl, P1.1, _, 0, _, rfl, rfl, SqT.of f1, at0, _, rfl, P2.1, _, 0, _, rfl, rfl, SqT.of f2, at0, _, _, rfl, rfl, ?_⟩
     rw [decide_eq_true (show P1.2.1.cps.toList < P2.2.1.cps.toList from hlt i P1 P2 e1 e2)]
     refine ⟨s3 _ _ h1, hN _ _ _ ⟨⟨_, _, rfl⟩, ?_, zab, by rw [h2]; exact List.replicate_succ'.symm⟩⟩
     intro b o q'
     have : b ≠ p := fun z => by rw [z, hp'] at q'; cases q'
     rw [zak this]
     exact s3 _ _ (s b o q')
 · rintro σ' zs H' ⟨_, s, h1, h2⟩
   refine ⟨p, List.replicate (ps.length - 1) true, rfl, SqL.of (by rw [h1, h2, List.map_replicate]), ?_⟩
   have : (List.replicate (ps.length - 1) true).all id = true := by simp
   rw [this]
   exact q H' (s1.trans s)
theorem zhF (F : Fun K "is_wish" "is_wish" zch f fd) (G_fields_ascend : Γ10 P w K mg base) (G_is_wish_part : Γ8 P w K mg base) : FnOk P w K mg base CX0 5 f fd ["thing"] (zeJ) := by
 refine F.ok zhA (fun vs H Q E h => ?_) (fun cdv A outer s H vs Q E hr h => ?_)
 · obtain ⟨a, w', rfl, hw, wok, q⟩ := h
   rfl
 obtain ⟨a, w', rfl, hw, wok, q⟩ := h
 refine ⟨_, (zad (zaI (zaS (zaQ (zan (zas (n := "")) rfl B.isinstance_ zal (zaa (pv 0) (zaa (zaE (v := .ty "tuple") rfl B.tuple_ zbc rfl) zac))))) (zah (zaj zcN)) zaq)
  (zah (zaj (zbP (zan (zcD rfl) rfl B.all_ zew (zaa (zdq (N' := ["part"]) (js := [none]) rfl (zb5 (N := ["thing"]) (outer := zag zch) (by decide +kernel)) (zce (pv 0)) (fun _ _ _ _ _ => (zai (i := 0) (show List.Nodup (["part"] : List Str) by decide +kernel) rfl (Or.inl rfl))) (fun _ _ _ _ _ => zaJ) (fun _ _ _ _ _ => (zao G_is_wish_part (hr.mono (by decide)) rfl (zaa (pv 0) zac)))) zac)) (zaT (zao G_fields_ascend (hr.mono (by decide)) rfl (zaa (pv 0) zac))))))), ?_⟩
 obtain ⟨ps, rfl, hA, hP⟩ := hw
 have ll : ps.length ≤ 100 := by have := wok.len; rw [List.length_map] at this; exact this
 refine ⟨_, rfl, _, "tuple", "tuple", true, rfl, .tup hA, rfl, _, rfl, iteF ?_⟩
 refine ⟨_, rfl, a, rfl, ⟨_, SqT.of hA⟩, fun p hp => ?_⟩
 refine zdk (xs := ps.map fun p => V.ref p.1) (fun i σ' ys H' => (∃ v, σ' = [v]) ∧ Same H H' ∧ H' p = some (.lst ys) ∧ ys = List.replicate i (V.bl true)) ⟨⟨none, rfl⟩, zae hp _, zab, rfl⟩ ?_ ?_ ?_
 · rintro i σ' ys H' hi ⟨_, s, h1, h2⟩
   refine ⟨s.seqT (SqT.of hA), h1, ?_⟩
   rw [h2, List.length_replicate]
   rw [List.length_map] at hi
   exact zap (by omega)
 · rintro i x σ' ys H' N hx ⟨⟨v, rfl⟩, s, h1, h2⟩ hN
   rw [List.getElem?_map] at hx
   cases e1 : ps[i]? with
   | none => rw [e1] at hx; cases hx
   | some P1 =>
    rw [e1] at hx
    obtain rfl : V.ref P1.1 = x := Option.some.inj hx
    have hm := List.mem_of_getElem? e1
    obtain ⟨o1, o2⟩ := wok.ok P1.2 (List.mem_map_of_mem hm)
    refine ⟨_, rfl, P1.1, P1.2.1, P1.2.2.1, P1.2.2.2, rfl, s _ _ (hP P1 hm), o1, o2, fun H2 s2 => ?_⟩
    refine ⟨s2 _ _ h1, hN _ _ _ ⟨⟨_, rfl⟩, zbq (s.trans s2) hp, zab, by rw [h2]; exact List.replicate_succ'.symm⟩⟩
 · rintro σ' ys H' ⟨_, s, h1, h2⟩
   refine ⟨p, List.replicate (ps.map fun p => V.ref p.1).length true, rfl, SqL.of (by rw [h1, h2, List.map_replicate]), _, rfl, ?_⟩
   rw [show (List.replicate (ps.map fun p => V.ref p.1).length true).all id = true by simp]
   refine iteT ⟨_, rfl, a, ps.map (fun p => (p.1, p.2.1, [eV p.2.2.1, eV p.2.2.2])), rfl, ?_, by rw [List.length_map]; exact ll, ?_, ?_, fun H2 s2 => q H2 (s.trans s2)⟩
   · rw [List.map_map]; exact s _ _ hA
   · intro r hr
     rw [List.mem_map] at hr
     obtain ⟨P1, hm, rfl⟩ := hr
     exact s _ _ (hP P1 hm)
   · intro i r1 r2 h3 h4
     rw [List.getElem?_map] at h3 h4
     cases e1 : ps[i]? with
     | none => rw [e1] at h3; cases h3
     | some P1 =>
      cases e2 : ps[i + 1]? with
      | none => rw [e2] at h4; cases h4
      | some P2 =>
       rw [e1] at h3
       rw [e2] at h4
       obtain rfl := Option.some.inj h3
       obtain rfl := Option.some.inj h4
       have l2 := (List.getElem?_eq_some_iff.mp e2).1
       have := List.pairwise_iff_getElem.mp wok.asc i (i + 1) (by simp; omega) (by simp; omega) (by omega)
       simp only [List.getElem_map] at this
       rw [(List.getElem?_eq_some_iff.mp e1).2, (List.getElem?_eq_some_iff.mp e2).2] at this
       exact this
theorem zgD (F : Fun K "is_piece" "is_piece" zbX f fd) (G_fields_ascend : Γ10 P w K mg base) (G_is_piece_part : Γ9 P w K mg base) : FnOk P w K mg base CX0 3 f fd ["thing"] (zdM) := by
 refine F.ok zgk (fun vs H Q E h => ?_) (fun cdv A outer s H vs Q E hr h => ?_)
 · obtain ⟨a, w', rfl, hw, wok, q⟩ := h
   rfl
 obtain ⟨a, w', rfl, hw, wok, q⟩ := h
 refine ⟨_, (zad (zaI (zaS (zaQ (zan (zas (n := "")) rfl B.isinstance_ zal (zaa (pv 0) (zaa (zaE (v := .ty "tuple") rfl B.tuple_ zbc rfl) zac))))) (zah (zaj zcN)) zaq)
  (zah (zaj (zbP (zan (zcD rfl) rfl B.all_ zew (zaa (zdq (N' := ["part"]) (js := [none]) rfl (zb5 (N := ["thing"]) (outer := zag zbX) (by decide +kernel)) (zce (pv 0)) (fun _ _ _ _ _ => (zai (i := 0) (show List.Nodup (["part"] : List Str) by decide +kernel) rfl (Or.inl rfl))) (fun _ _ _ _ _ => zaJ) (fun _ _ _ _ _ => (zao G_is_piece_part (hr.mono (by decide)) rfl (zaa (pv 0) zac)))) zac)) (zaT (zao G_fields_ascend (hr.mono (by decide)) rfl (zaa (pv 0) zac))))))), ?_⟩
 obtain ⟨ps, rfl, hA, hP⟩ := hw
 have ll : ps.length ≤ 100 := by have := wok.len; rw [List.length_map] at this; exact this
 refine ⟨_, rfl, _, "tuple", "tuple", true, rfl, .tup hA, rfl, _, rfl, iteF ?_⟩
 refine ⟨_, rfl, a, rfl, ⟨_, SqT.of hA⟩, fun p hp => ?_⟩
 refine zdk (xs := ps.map fun p => V.ref p.1) (fun i σ' ys H' => (∃ v, σ' = [v]) ∧ Same H H' ∧ H' p = some (.lst ys) ∧ ys = List.replicate i (V.bl true)) ⟨⟨none, rfl⟩, zae hp _, zab, rfl⟩ ?_ ?_ ?_
 · rintro i σ' ys H' hi ⟨_, s, h1, h2⟩
   refine ⟨s.seqT (SqT.of hA), h1, ?_⟩
   rw [h2, List.length_replicate]
   rw [List.length_map] at hi
   exact zap (by omega)
 · rintro i x σ' ys H' N hx ⟨⟨v, rfl⟩, s, h1, h2⟩ hN
   rw [List.getElem?_map] at hx
   cases e1 : ps[i]? with
   | none => rw [e1] at hx; cases hx
   | some P1 =>
    rw [e1] at hx
    obtain rfl : V.ref P1.1 = x := Option.some.inj hx
    have hm := List.mem_of_getElem? e1
    have o1 := wok.ok P1.2 (List.mem_map_of_mem hm)
    refine ⟨_, rfl, P1.1, P1.2.1, P1.2.2, rfl, s _ _ (hP P1 hm), o1, fun H2 s2 => ?_⟩
    refine ⟨s2 _ _ h1, hN _ _ _ ⟨⟨_, rfl⟩, zbq (s.trans s2) hp, zab, by rw [h2]; exact List.replicate_succ'.symm⟩⟩
 · rintro σ' ys H' ⟨_, s, h1, h2⟩
   refine ⟨p, List.replicate (ps.map fun p => V.ref p.1).length true, rfl, SqL.of (by rw [h1, h2, List.map_replicate]), _, rfl, ?_⟩
   rw [show (List.replicate (ps.map fun p => V.ref p.1).length true).all id = true by simp]
   refine iteT ⟨_, rfl, a, ps.map (fun p => (p.1, p.2.1, [V.int p.2.2])), rfl, ?_, by rw [List.length_map]; exact ll, ?_, ?_, fun H2 s2 => q H2 (s.trans s2)⟩
   · rw [List.map_map]; exact s _ _ hA
   · intro r hr
     rw [List.mem_map] at hr
     obtain ⟨P1, hm, rfl⟩ := hr
     exact s _ _ (hP P1 hm)
   · intro i r1 r2 h3 h4
     rw [List.getElem?_map] at h3 h4
     cases e1 : ps[i]? with
     | none => rw [e1] at h3; cases h3
     | some P1 =>
      cases e2 : ps[i + 1]? with
      | none => rw [e2] at h4; cases h4
      | some P2 =>
       rw [e1] at h3
       rw [e2] at h4
       obtain rfl := Option.some.inj h3
       obtain rfl := Option.some.inj h4
       have l2 := (List.getElem?_eq_some_iff.mp e2).1
       have := List.pairwise_iff_getElem.mp wok.asc i (i + 1) (by simp; omega) (by simp; omega) (by omega)
       simp only [List.getElem_map] at this
       rw [(List.getElem?_eq_some_iff.mp e1).2, (List.getElem?_eq_some_iff.mp e2).2] at this
       exact this
theorem ze2 (F : Fun K "check_wish" "check_wish" zbL f fd) (G_is_wish : Γ11 P w K mg base) : FnOk P w K mg base CX0 6 f fd ["thing"] (zdN) := by
 refine F.ok zeQ (fun vs H Q E h => ?_) (fun cdv A outer s H vs Q E hr h => ?_)
 · obtain ⟨a, w', rfl, hw, wok, q⟩ := h
   rfl
 obtain ⟨a, w', rfl, hw, wok, q⟩ := h
 refine ⟨_, (zah (zaI (zaS (zaQ (zao G_is_wish (hr.mono (by decide)) rfl (zaa (pv 0) zac)))) (zah zhc) zaq)), ?_⟩
 exact ⟨_, rfl, a, w', rfl, hw, wok, fun H' s => ⟨_, rfl, iteF (q H' s)⟩⟩
theorem zeg (F : Fun K "check_piece" "check_piece" zby f fd) (G_is_piece : Γ12 P w K mg base) : FnOk P w K mg base CX0 4 f fd ["thing"] (zc6) := by
 refine F.ok zec (fun vs H Q E h => ?_) (fun cdv A outer s H vs Q E hr h => ?_)
 · obtain ⟨a, w', rfl, hw, wok, q⟩ := h
   rfl
 obtain ⟨a, w', rfl, hw, wok, q⟩ := h
 refine ⟨_, (zah (zaI (zaS (zaQ (zao G_is_piece (hr.mono (by decide)) rfl (zaa (pv 0) zac)))) (zah zhc) zaq)), ?_⟩
 exact ⟨_, rfl, a, w', rfl, hw, wok, fun H' s => ⟨_, rfl, iteF (q H' s)⟩⟩
theorem zc9 (F : Fun K "spans_by_field" "spans_by_field" zaL f fd)  : FnOk P w K mg base CX0 1 f fd ["wish"] (zdI) := by
 refine F.ok zc7 (fun vs H Q E h => ?_) (fun cdv A outer s H vs Q E hr h => ?_)
 · obtain ⟨a, w', rfl, hw, wok, q⟩ := h
   rfl
 obtain ⟨a, w', rfl, hw, wok, q⟩ := h
 refine ⟨_, (zah (zaj (zml (N' := ["field", "low", "high"]) (js := [none, none, none]) rfl (zb5 (N := ["wish"]) (outer := zag zaL) (by decide +kernel)) (zce (pv 0)) (fun _ _ _ _ _ => (zeV K rfl (n := 3) rfl (zam (zai (i := 0) (show List.Nodup (["field", "low", "high"] : List Str) by decide +kernel) rfl (Or.inl rfl)) (zam (zai (i := 1) (show List.Nodup (["field", "low", "high"] : List Str) by decide +kernel) rfl (Or.inl rfl)) (zam (zai (i := 2) (show List.Nodup (["field", "low", "high"] : List Str) by decide +kernel) rfl (Or.inl rfl)) zaR))))) (fun _ _ _ _ _ => zaJ) (fun _ _ _ _ _ => (pv 0)) (fun _ _ _ _ _ => (zaz (zaa (pv 1) (zaa (pv 2) zac))))))), ?_⟩
 obtain ⟨ps, rfl, hA, hP⟩ := hw
 have ll : ps.length ≤ 100 := by have := wok.len; rw [List.length_map] at this; exact this
 refine ⟨_, rfl, a, rfl, ⟨_, SqT.of hA⟩, fun d hd => ?_⟩
 refine zlU (xs := ps.map fun p => V.ref p.1) (fun i σ' kvs H' => (∃ v1 v2 v3, σ' = [v1, v2, v3]) ∧ Same H H' ∧ H' d = some (.dK kvs) ∧ kvs.length ≤ i ∧ ∀ f : Str, match zaH ((ps.map (·.2)).take i) f with
  | none => valV kvs (.inr f) = none
  | some s => ∃ t, valV kvs (.inr f) = some (.ref t) ∧ H' t = some (.tup [eV s.1, eV s.2])) ⟨⟨none, none, none, rfl⟩, zae hd _, zab, Nat.zero_le _, fun f => rfl⟩ ?_ ?_ ?_
 · rintro i σ' kvs H' hi ⟨_, s, h1, h2, _⟩
   rw [List.length_map] at hi
   exact ⟨s.seqT (SqT.of hA), h1, zap (by omega)⟩
 · rintro i x σ' kvs H' N hx ⟨⟨v1, v2, v3, rfl⟩, s, h1, h2, h3⟩ hN
   rw [List.getElem?_map] at hx
   cases e1 : ps[i]? with
   | none => rw [e1] at hx; cases hx
   | some P1 =>
    rw [e1] at hx
    obtain rfl : V.ref P1.1 = x := Option.some.inj hx
    have hm := List.mem_of_getElem? e1
    refine ⟨P1.1, _, rfl, SqT.of (s _ _ (hP P1 hm)), rfl, _, _, rfl, _, _, rfl, _, _, rfl, rfl, ?_⟩
    refine ⟨_, rfl, _, rfl, _, rfl, zq2, fun u hu => ?_⟩
    have su := zae hu (.tup [eV P1.2.2.1, eV P1.2.2.2])
    have eu : (upd H' u (.tup [eV P1.2.2.1, eV P1.2.2.2])) u = some (.tup [eV P1.2.2.1, eV P1.2.2.2]) := zab
    have h1' := su _ _ h1
    generalize upd H' u (.tup [eV P1.2.2.1, eV P1.2.2.2]) = H2 at *
    have du : u ≠ d := zhH eu h1' (by intro z; cases z)
    refine ⟨Sum.inr P1.2.1, rfl, h1', hN _ _ _ ⟨⟨_, _, _, rfl⟩, zbq (s.trans su) hd, zab, ?_, fun f => ?_⟩⟩
    · have := zd3 kvs (Sum.inr P1.2.1 : Key) (V.ref u)
      omega
    · have ew : (ps.map (·.2))[i]? = some P1.2 := by rw [List.getElem?_map, e1]; rfl
      have fr := wok.fresh ew
      rw [zaC ew, zfV _ _ _ fr, zjo]
      by_cases hf : f = P1.2.1
      · subst hf
        rw [if_pos rfl, if_pos rfl]
        exact ⟨u, rfl, by rw [zak du]; exact eu⟩
      · rw [if_neg hf, if_neg (fun z => hf (by injection z))]
        have := h3 f
        cases hs : zaH ((ps.map (·.2)).take i) f with
        | none => rw [hs] at this; exact this
        | some sp =>
         rw [hs] at this
         obtain ⟨t, t1, t2⟩ := this
         exact ⟨t, t1, by rw [zak (zhH (su _ _ t2) h1' (by intro z; cases z))]; exact su _ _ t2⟩
 · rintro σ' kvs H' ⟨_, s, h1, h2, h3⟩
   have et : (ps.map (·.2)).take (ps.map fun p => V.ref p.1).length = ps.map (·.2) := List.take_of_length_le (by simp)
   refine q d H' s hd ⟨kvs, h1, by simpa using h2, fun f => ?_⟩
   have := h3 f
   rw [et] at this
   exact this
theorem zdr (F : Fun K "reaches_spans" "reaches_spans" za5 f fd) (G_span_reaches : Γ3 P w K mg base) : FnOk P w K mg base CX0 2 f fd ["one", "other_spans"] (zdK) := by
 refine F.ok sc_reaches_spans (fun vs H Q E h => ?_) (fun cdv A outer s H vs Q E hr h => ?_)
 · obtain ⟨a, d, w', w2, rfl, hw, hd, q⟩ := h
   rfl
 obtain ⟨a, d, w', w2, rfl, hw, hd, q⟩ := h
 refine ⟨_, (zad (zen PassesOwn.never rfl (zce (pv 0)) (zb1 rfl (zam (zai (i := 2) sc_reaches_spans.nd rfl (Or.inl rfl)) (zam (zai (i := 3) sc_reaches_spans.nd rfl (Or.inl rfl)) (zam (zai (i := 4) sc_reaches_spans.nd rfl (Or.inl rfl)) zaR)))) (zah (zaI (PW.pt (zdR (zbH (ziw (zkQ hr) (pv 2) (pv 1)) (by with_unfolding_all rfl)) (zcE (zaS (zaQ (zao G_span_reaches (hr.mono (by decide)) rfl (zaa (zaz (zaa (pv 3) (zaa (pv 4) zac))) (zaa (zkG (zkQ hr) (pv 1) (pv 2) (fun _ _ => rfl)) zac)))))))) (zah (zaj zcN)) zaq)))
  (zah (zaj zcN))), ?_⟩
 obtain ⟨ps, rfl, hA, hP⟩ := hw
 refine ⟨_, rfl, a, rfl, ⟨_, SqT.of hA⟩, zgS (K := K) (a := a) (xs := ps.map fun p => V.ref p.1) (fun i σ H' => (∃ y2 y3 y4, σ = [some (.ref a), some (.ref d), y2, y3, y4]) ∧ Same H H' ∧ zci ((ps.map (·.2)).take i) w2 = true) ⟨⟨none, none, none, rfl⟩, Same.refl _, rfl⟩ (fun i σ H' _ ⟨_, s, _⟩ => s.seqT (SqT.of hA)) ?_ ?_⟩
 · rintro i x σ H' hx ⟨⟨y2, y3, y4, rfl⟩, s, hr'⟩
   rw [List.getElem?_map] at hx
   cases e1 : ps[i]? with
   | none => rw [e1] at hx; cases hx
   | some P1 =>
    rw [e1] at hx
    obtain rfl : V.ref P1.1 = x := Option.some.inj hx
    have hm := List.mem_of_getElem? e1
    have ew : (ps.map (·.2))[i]? = some P1.2 := by rw [List.getElem?_map, e1]; rfl
    obtain ⟨kvs, k1, k2, k3⟩ := hd.same s
    have kf := k3 P1.2.1
    refine ⟨P1.1, _, rfl, SqT.of (s _ _ (hP P1 hm)), rfl, _, _, rfl, _, _, rfl, _, _, rfl, rfl, ?_⟩
    have out : zel w2 P1.2 = false → zci (ps.map (·.2)) w2 = false := fun h => by
     unfold zci
     rw [List.all_eq_false]
     exact ⟨P1.2, List.mem_map_of_mem hm, by rw [h]; exact Bool.false_ne_true⟩
    refine ⟨_, rfl, _, rfl, d, _, rfl, DGet.k (k := Sum.inr P1.2.1) k1, _, rfl, ?_⟩
    cases hs : zaH w2 P1.2.1 with
    | none =>
     rw [hs] at kf
     rw [kf]
     refine iteT ?_
     have o1 := out (zgq hs)
     rw [o1] at q
     exact q _ s
    | some sp =>
     rw [hs] at kf
     obtain ⟨t, t1, t2⟩ := kf
     rw [t1]
     refine iteF ⟨_, rfl, _, rfl, zq2, fun u hu => ?_⟩
     have su := zae hu (.tup [eV P1.2.2.1, eV P1.2.2.2])
     have gd : DGet (upd H' u (.tup [eV P1.2.2.1, eV P1.2.2.2])) d (.str P1.2.1) (some (.ref t)) := by
      have := DGet.k (k := Sum.inr P1.2.1) (su _ _ k1)
      rw [t1] at this
      exact this
     refine ⟨_, rfl, _, rfl, d, _, rfl, gd, .ref u, .ref t, P1.2.2.1, P1.2.2.2, sp.1, sp.2, rfl, ⟨u, rfl, zab⟩, ⟨t, rfl, su _ _ t2⟩, _, rfl, ?_⟩
     cases hb : zem P1.2.2.1 P1.2.2.2 sp.1 sp.2 with
     | false =>
      refine iteT ?_
      have o1 := out ((zcL hs).trans hb)
      rw [o1] at q
      exact q _ (s.trans su)
     | true =>
      refine iteF ⟨⟨_, _, _, rfl⟩, s.trans su, ?_⟩
      rw [zaC ew]
      unfold zci at *
      rw [List.all_append, hr', Bool.true_and, List.all_cons, List.all_nil, zcL hs, hb]
      rfl
 · rintro σ H' ⟨_, s, hr'⟩
   rw [show (ps.map (·.2)).take (ps.map fun p => V.ref p.1).length = ps.map (·.2) from List.take_of_length_le (by simp)] at hr'
   rw [hr'] at q
   exact q _ s
theorem zdV (F : Fun K "wish_reaches" "wish_reaches" zbh f fd) (G_reaches_spans : Γ16 P w K mg base) (G_spans_by_field : Γ15 P w K mg base) : FnOk P w K mg base CX0 3 f fd ["one", "other"] (zcI) := by
 refine F.ok zdO (fun vs H Q E h => ?_) (fun cdv A outer s H vs Q E hr h => ?_)
 · obtain ⟨a, b, w', w2, rfl, hw, hw2, wok, q⟩ := h
   rfl
 obtain ⟨a, b, w', w2, rfl, hw, hw2, wok, q⟩ := h
 refine ⟨_, (zah (zaj (zao G_reaches_spans (hr.mono (by decide)) rfl (zaa (pv 0) (zaa (zao G_spans_by_field (hr.mono (by decide)) rfl (zaa (pv 1) zac)) zac))))), ?_⟩
 exact ⟨_, rfl, _, rfl, b, w2, rfl, hw2, wok, fun d H1 s1 n1 D1 => ⟨a, d, w', w2, rfl, hw.same s1, D1, fun H2 s2 => q H2 (s1.trans s2)⟩⟩
theorem zdt (F : Fun K "parting_piece" "parting_piece" za7 f fd) (G_check_wish : Γ13 P w K mg base) (G_wish_reaches : Γ17 P w K mg base) (G_spans_by_field : Γ15 P w K mg base) (G_number_apart : Γ6 P w K mg base) (G_number_of : Γ5 P w K mg base) : FnOk P w K mg base CX0 7 f fd ["one", "other"] (zdL) := by
 refine F.ok sc_parting_piece (fun vs H Q E h => ?_) (fun cdv A outer s H vs Q E hr h => ?_)
 · obtain ⟨a, b, w', w2, rfl, hw, hw2, ok1, ok2, qT, qF⟩ := h
   rfl
 obtain ⟨a, b, w', w2, rfl, hw, hw2, ok1, ok2, qT, qF⟩ := h
 refine ⟨_, (zad (zaM (zao G_check_wish (hr.mono (by decide)) rfl (zaa (pv 0) zac)))
  (zad (zaM (zao G_check_wish (hr.mono (by decide)) rfl (zaa (pv 1) zac)))
  (zad (zaI (zaQ (zao G_wish_reaches (hr.mono (by decide)) rfl (zaa (pv 1) (zaa (pv 0) zac)))) (zah (zaj zbd)) zaq)
  (zad (zaw (i := 2) sc_parting_piece.nd rfl (Or.inl rfl) (zao G_spans_by_field (hr.mono (by decide)) rfl (zaa (pv 1) zac)))
  (zad (zaw (i := 3) sc_parting_piece.nd rfl (Or.inl rfl) (zcf zac))
  (zad (zen PassesOwn.never rfl (zce (pv 0)) (zb1 rfl (zam (zai (i := 4) sc_parting_piece.nd rfl (Or.inl rfl)) (zam (zai (i := 5) sc_parting_piece.nd rfl (Or.inl rfl)) (zam (zai (i := 6) sc_parting_piece.nd rfl (Or.inl rfl)) zaR)))) (zad (zaw (i := 7) sc_parting_piece.nd rfl (Or.inl rfl) (zao G_number_apart (hr.mono (by decide)) rfl (zaa (zaz (zaa (pv 5) (zaa (pv 6) zac))) (zaa (zjD (zkQ hr) (pv 2) (pv 4) (zaz (zaa zbd (zaa zbd zac))) ⟨rfl, rfl, rfl, rfl⟩) zac))))
  (zad (zaI (zbH (zb2 (pv 7))) (zah (zaw (i := 7) sc_parting_piece.nd rfl (Or.inl rfl) (zao G_number_of (hr.mono (by decide)) rfl (zaa (zaz (zaa (pv 5) (zaa (pv 6) zac))) zac)))) zaq)
  (zah (zaM (zcM PySem.F.plainAttrs_list PySem.F.slot_list_append PySem.F.type_list_append zcl (pv 3) (zaa (zaz (zaa (pv 4) (zaa (pv 7) zac))) zac)))))))
  (zah (zaj (zbI zbB rfl B.tuple_ zbc (zaa (pv 3) zac)))))))))), ?_⟩
 refine ⟨_, rfl, a, w', rfl, hw, ok1, fun H1 s1 => ?_⟩
 refine ⟨_, rfl, b, w2, rfl, hw2.same s1, ok2, fun H2 s2 => ?_⟩
 have t2 := s1.trans s2
 refine ⟨_, rfl, _, rfl, b, a, w2, w', rfl, hw2.same t2, hw.same t2, ok1, fun H3 s3 => ⟨_, rfl, ?_⟩⟩
 have t3 := t2.trans s3
 cases hb : zci w2 w' with
 | true => exact iteT (qT hb _ t3)
 | false =>
  refine iteF ⟨_, rfl, b, w2, rfl, hw2.same t3, ok2, fun d H4 s4 n4 D4 => ?_⟩
  have t4 := t3.trans s4
  refine ⟨sz0, fun l hl => ?_⟩
  have s5 := zae hl (.lst [])
  have hd5 := D4.same s5
  have nl : H l = none := zgH t4 hl
  have ll := ok1.len
  obtain ⟨ps, rfl, hA, hP⟩ := hw.same (t4.trans s5)
  rw [List.length_map] at ll
  have e5 : (upd H4 l (.lst [])) l = some (.lst []) := zab
  have t5 := t4.trans s5
  have d5 : ∃ kvs, (upd H4 l (.lst [])) d = some (.dK kvs) := let ⟨kvs, e, _⟩ := hd5; ⟨kvs, e⟩
  generalize upd H4 l (.lst []) = H5 at *
  refine ⟨_, rfl, a, rfl, ⟨_, SqT.of hA⟩, zgS (K := K) (a := a) (xs := ps.map fun p => V.ref p.1) (fun i σ H' => (∃ y5 y6 y7 y4, σ = [some (.ref a), some (.ref b), some (.ref d), some (.ref l), y4, y5, y6, y7]) ∧ Same H H' ∧ (∀ c xs, H5 c = some (.tup xs) → H' c = some (.tup xs)) ∧ DictSp H' d w2 ∧ ∃ qs : List (Addr × PP), H' l = some (.lst (qs.map fun q => V.ref q.1)) ∧ qs.map (·.2) = zgt ((ps.map (·.2)).take i) w2 ∧ ∀ q ∈ qs, H' q.1 = some (.tup [.str q.2.1, .int q.2.2])) ?_ ?_ ?_ ?_⟩
  · exact ⟨⟨none, none, none, none, rfl⟩, t5, fun c xs h => h, hd5, [], e5, rfl, fun q hq => by simp at hq⟩
  · rintro i σ H' _ ⟨_, _, s, _⟩
    exact SqT.of (s _ _ hA)
  · rintro i x σ H6 hx ⟨⟨y5, y6, y7, y4, rfl⟩, s6, c6, D6, qs, f6, g6, h6⟩
    rw [List.getElem?_map] at hx
    cases e1 : ps[i]? with
    | none => rw [e1] at hx; cases hx
    | some P1 =>
     rw [e1] at hx
     obtain rfl : V.ref P1.1 = x := Option.some.inj hx
     have hm := List.mem_of_getElem? e1
     have li := (List.getElem?_eq_some_iff.mp e1).1
     have ew : (ps.map (·.2))[i]? = some P1.2 := by rw [List.getElem?_map, e1]; rfl
     have lq : qs.length = i := by
      have := congrArg List.length g6
      unfold zgt at this
      simp at this
      omega
     refine ⟨P1.1, _, rfl, SqT.of (c6 _ _ (hP P1 hm)), rfl, _, _, rfl, _, _, rfl, _, _, rfl, rfl, ?_⟩
     refine ⟨_, rfl, _, rfl, zq2, fun u hu => ?_⟩
     have su := zae hu (.tup [eV P1.2.2.1, eV P1.2.2.2])
     have eu : (upd H6 u (.tup [eV P1.2.2.1, eV P1.2.2.2])) u = some (.tup [eV P1.2.2.1, eV P1.2.2.2]) := zab
     have D7 := D6.same su
     have f7 := su _ _ f6
     generalize upd H6 u (.tup [eV P1.2.2.1, eV P1.2.2.2]) = H7 at *
     obtain ⟨kvs, k1, k2, k3⟩ := id D7
     refine ⟨_, rfl, d, rfl, .inl ⟨kvs, .inl k1⟩, _, rfl, zq2, fun v hv => ?_⟩
     have sv := zae hv (.tup [V.non, V.non])
     have ev : (upd H7 v (.tup [V.non, V.non])) v = some (.tup [V.non, V.non]) := zab
     have eu8 := sv _ _ eu
     have f8 := sv _ _ f7
     have D8 := D7.same sv
     have k8 := sv _ _ k1
     generalize upd H7 v (.tup [V.non, V.non]) = H8 at *
     have s68 := su.trans sv
     have kf := k3 P1.2.1
     have gd := DGet.k (k := Sum.inr P1.2.1) k8
     obtain ⟨sp, esp, tt, ett, htt⟩ : ∃ sp : Option Int × Option Int, (zaH w2 P1.2.1).getD (none, none) = sp ∧ ∃ tt, (valV kvs (Sum.inr P1.2.1 : Key)).getD (.ref v) = .ref tt ∧ H8 tt = some (.tup [eV sp.1, eV sp.2]) := by
      cases hs : zaH w2 P1.2.1 with
      | none => rw [hs] at kf; rw [kf]; exact ⟨(none, none), rfl, v, rfl, ev⟩
      | some sp => rw [hs] at kf; obtain ⟨t, z1, z2⟩ := kf; rw [z1]; exact ⟨sp, rfl, t, rfl, sv _ _ z2⟩
     refine ⟨_, gd, ?_⟩
     rw [ett]
     refine ⟨.ref u, .ref tt, P1.2.2.1, P1.2.2.2, sp.1, sp.2, rfl, ⟨u, rfl, eu8⟩, ⟨tt, rfl, htt⟩, fun H9 s9 => ?_⟩
     have t9 := s6.trans (s68.trans s9)
     have s69 := s68.trans s9
     have f9 := s9 _ _ f8
     have D9 := D8.same s9
     have fin : ∀ (n : Int) (H10 : Hp) (y7' : Option V), n = zcX w2 P1.2 → Same H9 H10 → ∀ t, H10 t = none → Tups H5 (upd (upd H10 t (.tup [.str P1.2.1, .int n])) l (.lst (qs.map (fun q => V.ref q.1) ++ [V.ref t]))) ∧ Same H (upd (upd H10 t (.tup [.str P1.2.1, .int n])) l (.lst (qs.map (fun q => V.ref q.1) ++ [V.ref t]))) ∧
      DictSp (upd (upd H10 t (.tup [.str P1.2.1, .int n])) l (.lst (qs.map (fun q => V.ref q.1) ++ [V.ref t]))) d w2 ∧ (upd H10 t (.tup [.str P1.2.1, .int n])) l = some (.lst (qs.map fun q => V.ref q.1)) ∧ ∃ qs' : List (Addr × PP), (upd (upd H10 t (.tup [.str P1.2.1, .int n])) l (.lst (qs.map (fun q => V.ref q.1) ++ [V.ref t]))) l = some (.lst (qs'.map fun q => V.ref q.1)) ∧ qs'.map (·.2) = zgt ((ps.map (·.2)).take (i + 1)) w2 ∧ ∀ q ∈ qs', (upd (upd H10 t (.tup [.str P1.2.1, .int n])) l (.lst (qs.map (fun q => V.ref q.1) ++ [V.ref t]))) q.1 = some (.tup [.str q.2.1, .int q.2.2]) := by
      intro n H10 _ en s10 t ht
      have st := zae ht (.tup [V.str P1.2.1, V.int n])
      have s9t := s10.trans st
      have fl := s9t _ _ f9
      have tl : Tups (upd H10 t (.tup [V.str P1.2.1, V.int n])) (upd (upd H10 t (.tup [V.str P1.2.1, V.int n])) l (.lst (qs.map (fun q => V.ref q.1) ++ [V.ref t]))) := zeC fl
      have all : Tups H6 (upd (upd H10 t (.tup [V.str P1.2.1, V.int n])) l (.lst (qs.map (fun q => V.ref q.1) ++ [V.ref t]))) := (s69.trans s9t).tups.trans tl
      refine ⟨fun c xs h => all _ _ (c6 c xs h), zbq (t9.trans s9t) nl, ?_, fl, qs ++ [(t, P1.2.1, n)], ?_, ?_, ?_⟩
      · obtain ⟨kv, q1, q2, q3⟩ := D9.same s9t
        have dl : d ≠ l := zhH q1 fl (by intro z; cases z)
        refine ⟨kv, by rw [zak dl]; exact q1, q2, fun f => ?_⟩
        have := q3 f
        cases hs : zaH w2 f with
        | none => rw [hs] at this; exact this
        | some sp => rw [hs] at this; obtain ⟨z, z1, z2⟩ := this; exact ⟨z, z1, tl _ _ z2⟩
      · rw [zab, List.map_append]; rfl
      · rw [List.map_append, g6, zaC ew]
        unfold zgt
        rw [List.map_append, en]
        rfl
      · intro q hq
        rcases List.mem_append.mp hq with z | z
        · exact all _ _ (h6 q z)
        · rw [List.mem_singleton.mp z]
          exact tl _ _ zab
     refine ⟨_, rfl, _, rfl, ?_⟩
     cases en : zay P1.2.2.1 P1.2.2.2 sp.1 sp.2 with
     | some n =>
      have fn := zd0 esp en
      refine iteF ⟨_, rfl, .inl ⟨rfl, _, SqL.of f9⟩, _, rfl, _, rfl, zq2, fun t ht => ?_⟩
      obtain ⟨r1, r2, r3, r4, r5⟩ := fin n H9 none fn.symm (Same.refl _) t ht
      exact ⟨l, _, _, rfl, rfl, r4, (by rw [List.length_map, lq]; exact zap (by omega)), ⟨_, _, _, _, rfl⟩, r2, r1, r3, r5⟩
     | none =>
      have fn := zd1 esp en
      refine iteT ⟨_, rfl, _, rfl, zq2, fun z hz => ?_⟩
      have sz := zae hz (.tup [eV P1.2.2.1, eV P1.2.2.2])
      refine ⟨.ref z, P1.2.2.1, P1.2.2.2, rfl, ⟨z, rfl, zab⟩, ?_⟩
      refine ⟨_, rfl, .inl ⟨rfl, _, SqL.of (sz _ _ f9)⟩, _, rfl, _, rfl, zq2, fun t ht => ?_⟩
      obtain ⟨r1, r2, r3, r4, r5⟩ := fin _ _ none fn.symm sz t ht
      exact ⟨l, _, _, rfl, rfl, r4, (by rw [List.length_map, lq]; exact zap (by omega)), ⟨_, _, _, _, rfl⟩, r2, r1, r3, r5⟩
  · rintro σ H6 ⟨⟨y5, y6, y7, y4, rfl⟩, s6, c6, D6, qs, f6, g6, h6⟩
    rw [show (ps.map (·.2)).take (ps.map fun p => V.ref p.1).length = ps.map (·.2) from List.take_of_length_le (by simp)] at g6
    refine ⟨_, rfl, l, _, rfl, .inl ⟨SqL.of f6, fun r hr' => ?_⟩⟩
    have sr := zae hr' (.tup (qs.map fun q => V.ref q.1))
    exact qF hb r _ (s6.trans sr) ⟨qs, g6, zab, fun q hq => sr _ _ (h6 q hq)⟩
theorem zdw (F : Fun K "check_written" "check_written" zba f fd)  : FnOk P w K mg base (CXE P w base) 3 f fd ["holds"] (spCW cNoText) := by
 refine F.okX zdp (fun vs H Q E h => ?_) (fun cdv A outer s H vs Q E hr h => ?_)
 · obtain ⟨b, rfl, q1, q2⟩ := h
   rfl
 obtain ⟨b, rfl, q1, q2⟩ := h
 refine ⟨_, (zah (zaI (zaS (zaQ (pv 0))) (zah (zjA zil rfl Cl.x_NoText rfl Cl.m_NoText F_init b_init (hr.mono (by decide)) (zaa zaG zac))) zaq)), ?_⟩
 refine ⟨_, rfl, _, rfl, ?_⟩
 cases b with
 | true => exact iteF (q1 rfl)
 | false => exact iteT ⟨_, rfl, q2 rfl⟩
theorem ze3 (F : Fun K "check_text" "check_text" zbM f fd) (G_check_written : Γ19 P w K mg base cNoText) : FnOk P w K mg base CX0 4 f fd ["thing"] (spCT) := by
 refine F.ok zeR (fun vs H Q E h => ?_) (fun cdv A outer s H vs Q E hr h => ?_)
 · obtain ⟨x, rfl, q⟩ := h
   rfl
 obtain ⟨x, rfl, q⟩ := h
 refine ⟨_, (zah (zaM (zao (FnHX.calm G_check_written) (hr.mono (by decide)) rfl (zaa (zan (zas (n := "")) rfl B.isinstance_ zal (zaa (pv 0) (zaa (zaE (v := .ty "str") rfl B.str_ zea rfl) zac))) zac)))), ?_⟩
 exact ⟨_, rfl, _, "str", "str", true, rfl, .str x, rfl, _, rfl, fun _ => q, fun z => by cases z⟩
theorem zgw (F : Fun K "show_end" "show_end" zcs f fd)  : FnOk P w K mg base CX0 1 f fd ["number"] (zf1) := by
 refine F.ok zgh (fun vs H Q E h => ?_) (fun cdv A outer s H vs Q E hr h => ?_)
 · obtain ⟨o, rfl, so, q⟩ := h
   rfl
 obtain ⟨o, rfl, so, q⟩ := h
 refine ⟨_, (zah (zaj (zaY (zbH (zb2 (pv 0))) zaG (zbI zfK rfl B.str_ zea (zaa (pv 0) zac))))), ?_⟩
 cases o with
 | none => exact ⟨_, rfl, _, rfl, iteT (q _ sg_star)⟩
 | some n =>
  refine ⟨_, rfl, _, rfl, iteF ⟨_, rfl, _, _, rfl, rfl, fun i e => ?_, q _ rfl⟩⟩
  cases e
  exact ziK (so n rfl).md
theorem zgv (F : Fun K "words_in" "words_in" zcr f fd)  : FnOk P w K mg base CX0 1 f fd ["text"] (zfX) := by
 refine F.ok zgg (fun vs H Q E h => ?_) (fun cdv A outer s H vs Q E hr h => ?_)
 · obtain ⟨x, ws, rfl, hl, ⟨h0, hw⟩, q⟩ := h
   rfl
 obtain ⟨x, ws, rfl, hl, ⟨h0, hw⟩, q⟩ := h
 refine ⟨_, (zah (zaj (zaY (zav zb3 (pv 0) zaG (zau _)) (zcf zac) (zcM PySem.F.plainAttrs_str PySem.F.slot_str_split PySem.F.type_str_split zjH (pv 0) (zaa zaG zac))))), ?_⟩
 refine ⟨_, rfl, rfl, _, rfl, ?_⟩
 rcases hw with ⟨rfl, hx⟩ | ⟨hne, hx, hj⟩
 · rw [decide_eq_true (show V.str x = V.str ("-" : Str) by rw [zdi (hx.trans sg_minus.symm)])]
   exact iteT ⟨sz0, fun p hp => q p [] rfl hp⟩
 · rw [decide_eq_false (show ¬ V.str x = V.str ("-" : Str) from fun z => hx (by injection z with z; rw [z]; exact sg_minus))]
   refine iteF ⟨_, rfl, rfl, x, _, rfl, rfl, by decide +kernel, hl, fun p hp => q p _ ?_ hp⟩
   have := zjt (x := x) hne h0 hj
   rw [← zjX] at this
   exact this
theorem zgF (F : Fun K "count_in" "count_in" zbZ f fd) (G_check_written : Γ19 P w K mg base cNoText) : FnOk P w K mg base (CXE P w base) 4 f fd ["text", "most"] (zga cNoText) := by
 refine F.okX zgm (fun vs H Q E h => ?_) (fun cdv A outer s H vs Q E hr h => ?_)
 · obtain ⟨x, m, rfl, hx, hm, q1, q2⟩ := h
   rfl
 obtain ⟨x, m, rfl, hx, hm, q1, q2⟩ := h
 refine ⟨_, (zad (zaM (zdU G_check_written (hr.mono (by decide)) rfl (zaa (zbP (zeW zgu zgu zaf (zan zdm rfl B.len_ zc2 (zaa (pv 0) zac)) (pv 1)) (zaT (zan (zcD rfl) rfl B.all_ zew (zaa (zdq (N' := ["sign"]) (js := [none]) rfl (zb5 (N := ["text", "most"]) (outer := zag zbZ) (by decide +kernel)) (zj6 (pv 0)) (fun _ _ _ _ _ => (zai (i := 0) (show List.Nodup (["sign"] : List Str) by decide +kernel) rfl (Or.inl rfl))) (fun _ _ _ _ _ => zaJ) (fun _ _ _ _ _ => (zeW zcW zcW zaG (pv 0) zaG))) zac)))) zac)))
  (zad (zaM (zdU G_check_written (hr.mono (by decide)) rfl (zaa (zft (zbr zb3 (pv 0) zaG (zau _)) (zaT (zbr zeX (zaA ziX (pv 0) zaf (fun _ _ => rfl)) zaG (zau _)))) zac)))
  (zah (zaj (zbI zjh rfl B.int_ zho (zaa (pv 0) zac)))))), ?_⟩
 have hlen : x.length = (numL (m : Int)).length := by rw [zaF, hx]
 have l17 := zca hm
 have l1 : (1 : Int) ≤ (x.length : Int) := by
  have := List.length_pos_iff.mpr (ziD m)
  omega
 refine ⟨_, rfl, x, rfl, zgd (by omega), _, _, rfl, rfl, _, rfl, ?_⟩
 rw [decide_eq_true l1]
 refine iteT ⟨_, rfl, _, _, rfl, rfl, _, rfl, ?_⟩
 by_cases hsm : Sm (m : Int)
 · have l15 : (x.length : Int) ≤ 15 := by
    have := zda (m := m) (k := 15) (by decide) (zli hsm)
    omega
   rw [decide_eq_true l15]
   refine iteT ⟨_, rfl, x, rfl, fun p hp => ?_⟩
   have s0 := zae hp (.lst [])
   have sl : (L2.signs x).length = x.length := by unfold L2.signs; rw [List.length_map, Array.length_toList]; rfl
   refine zkc (xs := L2.signs x) (fun i σ' ys H' => (∃ v, σ' = [v]) ∧ Same H H' ∧ H' p = some (.lst ys) ∧ ys = List.replicate i (V.bl true)) ⟨⟨none, rfl⟩, s0, zab, rfl⟩ ?_ ?_ ?_
   · rintro i σ' ys H' hi ⟨_, _, h1, h2⟩
     refine ⟨h1, ?_⟩
     rw [h2, List.length_replicate]
     exact zap (by omega)
   · rintro i y σ' ys H' N hy ⟨⟨v, rfl⟩, s, h1, h2⟩ hN
     unfold L2.signs at hy
     rw [List.getElem?_map] at hy
     cases hc : x.cps.toList[i]? with
     | none => rw [hc] at hy; cases hy
     | some c =>
      rw [hc] at hy
      obtain rfl : V.str ⟨#[c]⟩ = y := Option.some.inj hy
      have ok := zcB m c (by rw [← hx]; exact List.mem_of_getElem? hc)
      refine ⟨_, rfl, _, _, rfl, rfl, _, rfl, ?_⟩
      rw [ge_0 ok.1]
      refine iteT ⟨_, _, rfl, rfl, ?_⟩
      rw [le_9 ok.2]
      refine ⟨h1, hN _ _ _ ⟨⟨_, rfl⟩, zbq s hp, zab, by rw [h2]; exact List.replicate_succ'.symm⟩⟩
   · rintro σ' ys H' ⟨_, s, h1, h2⟩
     refine ⟨p, List.replicate (L2.signs x).length true, rfl, SqL.of (by rw [h1, h2, List.map_replicate]), ?_⟩
     have : (List.replicate (L2.signs x).length true).all id = true := by simp
     rw [this]
     refine ⟨true, rfl, fun _ => ?_, fun z => by cases z⟩
     have last : tRet (tCB (fun xs H Q => ∃ x n, xs = [V.str x] ∧ x.length ≤ 640 ∧ intText? x = some n ∧ Q (V.int n) H) (zks (tVar 0) tNil)) { nx := fun x H' => Q V.non H', rt := Q } [some (V.str x), some (V.int 15)] H' := ⟨_, rfl, x, m, rfl, by omega, zjF hx (by omega), q1 hsm _ s⟩
     refine ⟨_, rfl, rfl, _, rfl, ?_⟩
     by_cases hm0 : m = 0
     · subst hm0
       have : x = ("0" : Str) := zdi (by rw [hx, zcP]; exact ziC)
       rw [decide_eq_true (show V.str x = V.str ("0" : Str) by rw [this])]
       exact iteT ⟨true, rfl, fun _ => last, fun z => by cases z⟩
     · obtain ⟨c, r, e, hc⟩ := zfB m (by omega)
       rw [decide_eq_false (show ¬ V.str x = V.str ("0" : Str) from fun z => by
        injection z with z
        rw [z, zcP, e] at hx
        injection hx with hx _
        exact hc hx.symm)]
       refine iteF ⟨_, rfl, x, _, c, rfl, rfl, zgd (by omega), ?_, rfl, ?_⟩
       · refine zcb (j := 0) ?_
         show (sg x)[0]? = _
         rw [hx, e]
         rfl
       · rw [decide_eq_false (show ¬ V.str (⟨#[c]⟩ : Str) = V.str ("0" : Str) from fun z => by
          injection z with z
          have := congrArg sg z
          rw [zcP] at this
          injection this with h _
          exact hc h)]
         exact ⟨true, rfl, fun _ => last, fun z => by cases z⟩
 · have l15 : ¬ (x.length : Int) ≤ 15 := by
    have := zjG (m := m) (zlC hsm)
    omega
   rw [decide_eq_false l15]
   exact iteF ⟨false, rfl, fun z => (by cases z), fun _ => q2 hsm H (Same.refl _)⟩
theorem zfy (F : Fun K "number_in" "number_in" zb9 f fd) (G_check_written : Γ19 P w K mg base cNoText) (G_count_in : Γ23 P w K mg base cNoText) : FnOk P w K mg base (CXE P w base) 5 f fd ["text"] (zf6 cNoText) := by
 refine F.okX zfm (fun vs H Q E h => ?_) (fun cdv A outer s H vs Q E hr h => ?_)
 · obtain ⟨x, n, rfl, hx, hm, q1, q2⟩ := h
   rfl
 obtain ⟨x, n, rfl, hx, hm, q1, q2⟩ := h
 refine ⟨_, (zad (zaI (zaS (zaQ (zcM PySem.F.plainAttrs_str PySem.F.slot_str_startswith PySem.F.type_str_startswith ze4 (pv 0) (zaa zaG zac)))) (zah (zaj (zdU G_count_in (hr.mono (by decide)) rfl (zaa (pv 0) (zaa (zgr (v := .int 15) rfl C_MOST_FIGURES ⟨_, rfl⟩) zac))))) zaq)
  (zad (zaM (zdU G_check_written (hr.mono (by decide)) rfl (zaa (zbr zeX (pv 0) zaG (zau _)) zac)))
  (zah (zaj (zls zj0 (zdU G_count_in (hr.mono (by decide)) rfl (zaa (zcV zjv (pv 0) (zdS zaf) zdT) (zaa (zgr (v := .int 15) rfl C_MOST_FIGURES ⟨_, rfl⟩) zac)))))))), ?_⟩
 refine ⟨_, rfl, rfl, x, _, rfl, rfl, _, rfl, ?_⟩
 rw [zhy hx]
 by_cases hn : n < 0
 · rw [decide_eq_true hn]
   obtain ⟨m, rfl, m0⟩ : ∃ m : Nat, n = -(m : Int) ∧ 0 < m := ⟨n.natAbs, by omega, by omega⟩
   have e := zdC m m0
   have hl2 := zca hm
   have hx2 : (sg x).length = (numL (-(m : Int))).length := by rw [hx]
   rw [← zaF] at hx2
   have hl3 : 1 ≤ x.length := by rw [hx2, e]; simp
   have hne : ¬ V.str x = V.str ("-0" : Str) := fun z => by
    injection z with z
    rw [z, zhz, e] at hx
    injection hx with _ hx
    obtain ⟨c, r, e2, hc⟩ := zfB m m0
    rw [e2] at hx
    injection hx with hx _
    exact hc hx.symm
   refine iteF ⟨_, rfl, rfl, ?_⟩
   rw [decide_eq_false hne]
   refine ⟨true, rfl, fun _ => ?_, fun z => by cases z⟩
   refine ⟨_, rfl, _, rfl, x, rfl, rfl, rfl, hl3, by omega, fun z hz => ?_⟩
   rw [hx, e] at hz
   have iff : Sm (m : Int) ↔ Sm (-(m : Int)) := by unfold Sm T15; constructor <;> intro h <;> omega
   exact ⟨z, m, rfl, hz, by unfold Md at hm ⊢; omega, fun h H' s => ⟨_, rfl, q1 (iff.mp h) H' s⟩, fun h H' s => q2 (fun h' => h (iff.mpr h')) H' s⟩
 · rw [decide_eq_false hn]
   obtain ⟨m, rfl⟩ := Int.eq_ofNat_of_zero_le (Int.not_lt.mp hn)
   exact ⟨_, rfl, x, m, rfl, hx, hm, fun h H' s => q1 h H' s, fun h H' s => q2 h H' s⟩
theorem ziA (F : Fun K "end_in" "end_in" zdA f fd) (G_number_in : Γ24 P w K mg base cNoText) : FnOk P w K mg base CX0 6 f fd ["text"] (zf9) := by
 refine F.ok zii (fun vs H Q E h => ?_) (fun cdv A outer s H vs Q E hr h => ?_)
 · obtain ⟨x, o, rfl, hx, so, q⟩ := h
   rfl
 obtain ⟨x, o, rfl, hx, so, q⟩ := h
 refine ⟨_, (zah (zaj (zaY (zav zb3 (pv 0) zaG (zau _)) zbd (zao (FnHX.calm G_number_in) (hr.mono (by decide)) rfl (zaa (pv 0) zac))))), ?_⟩
 refine ⟨_, rfl, rfl, _, rfl, ?_⟩
 cases o with
 | none =>
  rw [decide_eq_true (show V.str x = V.str ("*" : Str) by rw [zdi (hx.trans sg_star.symm)])]
  exact iteT (q H (Same.refl _))
 | some n =>
  rw [decide_eq_false (show ¬ V.str x = V.str ("*" : Str) from fun z => by
   injection z with z
   rw [z, sg_star] at hx
   have := zdb n 42 (by show 42 ∈ endL (some n); rw [← hx]; simp)
   omega)]
  exact iteF ⟨_, rfl, x, n, rfl, hx, (so n rfl).md, fun _ H' s => q H' s, fun h => absurd (so n rfl) h⟩
theorem zdW (F : Fun K "wish_part_in" "wish_part_in" zbi f fd) (G_end_in : Γ25 P w K mg base) : FnOk P w K mg base CX0 7 f fd ["text"] (zh6) := by
 refine F.ok sc_wish_part_in (fun vs H Q E h => ?_) (fun cdv A outer s H vs Q E hr h => ?_)
 · obtain ⟨x, p, rfl, hx, F1, s1, s2, q⟩ := h
   rfl
 obtain ⟨x, p, rfl, hx, F1, s1, s2, q⟩ := h
 refine ⟨_, (zad (zb0 (zcM PySem.F.plainAttrs_str PySem.F.slot_str_partition PySem.F.type_str_partition zck (pv 0) (zaa zaG zac)) (zb1 rfl (zam (zai (i := 1) sc_wish_part_in.nd rfl (Or.inl rfl)) (zam (zai (i := 2) sc_wish_part_in.nd rfl (Or.inl rfl)) (zam (zai (i := 3) sc_wish_part_in.nd rfl (Or.inl rfl)) zaR)))))
  (zad (zb0 (zcM PySem.F.plainAttrs_str PySem.F.slot_str_partition PySem.F.type_str_partition zck (pv 3) (zaa zaG zac)) (zb1 rfl (zam (zai (i := 4) sc_wish_part_in.nd rfl (Or.inl rfl)) (zam (zai (i := 5) sc_wish_part_in.nd rfl (Or.inl rfl)) (zam (zai (i := 6) sc_wish_part_in.nd rfl (Or.inl rfl)) zaR)))))
  (zah (zaj (zaz (zaa (pv 1) (zaa (zao G_end_in (hr.mono (by decide)) rfl (zaa (pv 4) zac)) (zaa (zao G_end_in (hr.mono (by decide)) rfl (zaa (pv 6) zac)) zac)))))))), ?_⟩
 have L1 : x.length ≤ 100000 := by
  rw [zaF, hx]
  unfold wpL
  have := F1.eight
  rw [zaF] at this
  have h1 := zbA s1
  have h2 := zbA s2
  simp only [List.length_append, List.length_cons, List.length_nil]
  omega
 refine ⟨_, rfl, rfl, x, _, rfl, rfl, by decide +kernel, L1, fun u hu => ?_⟩
 obtain ⟨p1, p2, p3⟩ := zgs (x := x) (y := (":" : Str)) (a := sg p.1) (b := endL p.2.1 ++ [46, 46] ++ endL p.2.2) (by rw [hx, zb7]; rfl) ⟨58, [], zb7, zdF F1 (by decide)⟩
 have p1 := zdi p1
 rw [p1, p2]
 generalize (Txt.partition x (":" : Str)).2.2 = y at p3
 have L2' : y.length ≤ 100000 := by
  rw [zaF, p3]
  have h1 := zbA s1
  have h2 := zbA s2
  simp only [List.length_append, List.length_cons, List.length_nil]
  omega
 have S1 := zae hu (.tup [V.str p.1, V.str (":" : Str), V.str y])
 refine ⟨u, _, rfl, SqT.of zab, rfl, _, _, rfl, _, _, rfl, _, _, rfl, rfl, ?_⟩
 refine ⟨_, rfl, rfl, y, _, rfl, rfl, by decide +kernel, L2', fun v hv => ?_⟩
 obtain ⟨r1, r2, r3⟩ := zgs (x := y) (y := (".." : Str)) (a := endL p.2.1) (b := endL p.2.2) (by rw [p3, zeN]) ⟨46, [46], zeN, zgT (.inl rfl)⟩
 rw [r2]
 generalize (Txt.partition y (".." : Str)).1 = y1 at r1
 generalize (Txt.partition y (".." : Str)).2.2 = y2 at r3
 have S2 := zae hv (.tup [V.str y1, V.str (".." : Str), V.str y2])
 refine ⟨v, _, rfl, SqT.of zab, rfl, _, _, rfl, _, _, rfl, _, _, rfl, rfl, ?_⟩
 refine ⟨_, rfl, _, rfl, y1, _, rfl, r1, s1, fun H3 S3 => ?_⟩
 refine ⟨_, rfl, y2, _, rfl, r3, s2, fun H4 S4 => ?_⟩
 have t4 := S1.trans (S2.trans (S3.trans S4))
 exact ⟨zq3, fun t ht => q t _ (t4.trans (zae ht _)) (zgH t4 ht) zab⟩
theorem zds (F : Fun K "piece_part_in" "piece_part_in" za6 f fd) (G_number_in : Γ24 P w K mg base cNoText) : FnOk P w K mg base (CXE P w base) 6 f fd ["text"] (zh8 cNoText) := by
 refine F.okX sc_piece_part_in (fun vs H Q E h => ?_) (fun cdv A outer s H vs Q E hr h => ?_)
 · obtain ⟨x, p, rfl, hx, F1, hm, q1, q2⟩ := h
   rfl
 obtain ⟨x, p, rfl, hx, F1, hm, q1, q2⟩ := h
 refine ⟨_, (zad (zb0 (zcM PySem.F.plainAttrs_str PySem.F.slot_str_partition PySem.F.type_str_partition zck (pv 0) (zaa zaG zac)) (zb1 rfl (zam (zai (i := 1) sc_piece_part_in.nd rfl (Or.inl rfl)) (zam (zai (i := 2) sc_piece_part_in.nd rfl (Or.inl rfl)) (zam (zai (i := 3) sc_piece_part_in.nd rfl (Or.inl rfl)) zaR)))))
  (zah (zaj (zaz (zaa (pv 1) (zaa (zdU G_number_in (hr.mono (by decide)) rfl (zaa (pv 3) zac)) zac)))))), ?_⟩
 have L1 : x.length ≤ 100000 := by
  rw [zaF, hx]
  unfold ppL
  have := F1.eight
  rw [zaF] at this
  have h1 := zca hm
  simp only [List.length_append, List.length_cons, List.length_nil]
  omega
 refine ⟨_, rfl, rfl, x, _, rfl, rfl, by decide +kernel, L1, fun u hu => ?_⟩
 obtain ⟨p1, p2, p3⟩ := zgs (x := x) (y := (":" : Str)) (a := sg p.1) (b := numL p.2) (by rw [hx, zb7]; rfl) ⟨58, [], zb7, zdF F1 (by decide)⟩
 have p1 := zdi p1
 rw [p1, p2]
 generalize (Txt.partition x (":" : Str)).2.2 = y at p3
 have S1 := zae hu (.tup [V.str p.1, V.str (":" : Str), V.str y])
 refine ⟨u, _, rfl, SqT.of zab, rfl, _, _, rfl, _, _, rfl, _, _, rfl, rfl, ?_⟩
 refine ⟨_, rfl, _, rfl, y, _, rfl, p3, hm, fun h H3 S3 => ?_, fun h H3 S3 => q2 h H3 (S1.trans S3)⟩
 have t3 := S1.trans S3
 exact ⟨zq2, fun t ht => q1 h t _ (t3.trans (zae ht _)) (zgH t3 ht) zab⟩
theorem zfv (F : Fun K "show_wish" "show_wish" zbE f fd) (G_check_wish : Γ13 P w K mg base) (G_show_end : Γ21 P w K mg base) : FnOk P w K mg base CX0 7 f fd ["wish"] (zfZ) := by
 refine F.ok sc_show_wish (fun vs H Q E h => ?_) (fun cdv A outer s H vs Q E hr h => ?_)
 · obtain ⟨a, w', rfl, hw, wok, wsm, q⟩ := h
   rfl
 obtain ⟨a, w', rfl, hw, wok, wsm, q⟩ := h
 refine ⟨_, (zad (zaM (zao G_check_wish (hr.mono (by decide)) rfl (zaa (pv 0) zac)))
  (zad (zcz (N' := ["field", "low", "high"]) (js := [none, none, none]) (i := 1) sc_show_wish.nd rfl (Or.inl rfl) rfl (zb5 (N := ["wish", "parts"]) (outer := zag zbE) (by decide +kernel)) (zce (pv 0)) (fun _ _ _ _ _ => (zeV K rfl (n := 3) rfl (zam (zai (i := 0) (show List.Nodup (["field", "low", "high"] : List Str) by decide +kernel) rfl (Or.inl rfl)) (zam (zai (i := 1) (show List.Nodup (["field", "low", "high"] : List Str) by decide +kernel) rfl (Or.inl rfl)) (zam (zai (i := 2) (show List.Nodup (["field", "low", "high"] : List Str) by decide +kernel) rfl (Or.inl rfl)) zaR))))) (fun _ _ _ _ _ => zaJ) (fun _ _ _ _ _ => (ziu (pj_s (pv 0) (pj_c (pj_s (zao G_show_end (hr.mono (by decide)) rfl (zaa (pv 1) zac)) (pj_c (pj_s (zao G_show_end (hr.mono (by decide)) rfl (zaa (pv 2) zac)) zj5))))))))
  (zah (zaj (zaY (zhb (pv 1) (fun _ => rfl)) (zcM PySem.F.plainAttrs_str PySem.F.slot_str_join PySem.F.type_str_join zdc zaG (zaa (pv 1) zac)) zaG))))), ?_⟩
 refine ⟨_, rfl, a, w', rfl, hw, wok, fun H1 s1 => ?_⟩
 have hw1 := hw.same s1
 obtain ⟨ps, hps, ha, hp⟩ := hw1
 refine ⟨_, rfl, a, rfl, ⟨_, SqT.of ha⟩, fun p hpn => ?_⟩
 have s0 := zae hpn (.lst [])
 have hlen : ps.length = w'.length := by rw [← hps, List.length_map]
 have h100 := wok.len
 refine zdk (K := K) (a := a) (xs := ps.map fun p => V.ref p.1) (fun i σ' ys H' => (∃ v1 v2 v3, σ' = [v1, v2, v3]) ∧ Same H1 H' ∧ H' p = some (.lst ys) ∧ ∃ ts : List Str, ys = ts.map V.str ∧ ts.map sg = (w'.take i).map wpL) ?_ ?_ ?_ ?_
 · exact ⟨⟨none, none, none, rfl⟩, s0, zab, [], rfl, rfl⟩
 · rintro i σ' ys H' hi ⟨_, s, h1, ts, rfl, h2⟩
   refine ⟨SqT.of (s _ _ ha), h1, ?_⟩
   rw [List.length_map]
   have := congrArg List.length h2
   rw [List.length_map, List.length_map, List.length_take] at this
   exact zap (by omega)
 · rintro i y σ' ys H' N hy ⟨⟨v1, v2, v3, rfl⟩, s, h1, ts, rfl, h2⟩ hN
   rw [List.getElem?_map] at hy
   cases hc : ps[i]? with
   | none => rw [hc] at hy; cases hy
   | some P1 =>
    rw [hc] at hy
    obtain rfl : V.ref P1.1 = y := Option.some.inj hy
    have hm : P1 ∈ ps := List.mem_of_getElem? hc
    have hwi : w'[i]? = some P1.2 := by rw [← hps, List.getElem?_map, hc]; rfl
    have hwm : P1.2 ∈ w' := List.mem_of_getElem? hwi
    have F1 := (wok.ok _ hwm).1
    have sm := wsm _ hwm
    have l8 := F1.eight
    have e1 := zbA sm.1
    have e2 := zbA sm.2
    refine ⟨P1.1, _, rfl, SqT.of (s _ _ (hp P1 hm)), rfl, _, _, rfl, _, _, rfl, _, _, rfl, rfl, ?_⟩
    have LL : ∀ z : Str, z.length ≤ 200 → z.length ≤ sizeLine := fun z hz => zgd (by omega)
    refine ⟨_, rfl, _, rfl, LL _ (by omega), LL _ (by simp only [zbD, zaU]; omega), LL _ (by simp only [zbD, zaU, zaV]; omega), _, rfl, P1.2.2.1, rfl, sm.1, fun x1 hx1 => ?_⟩
    have n1 : x1.length ≤ 17 := by rw [zaF, hx1]; exact e1
    refine ⟨x1, rfl, LL _ (by omega), LL _ (by simp only [zbD, zaU, zaV]; omega), LL _ (by simp only [zbD, zaU, zaV, zdD]; omega), _, rfl, P1.2.2.2, rfl, sm.2, fun x2 hx2 => ?_⟩
    have n2 : x2.length ≤ 17 := by rw [zaF, hx2]; exact e2
    refine ⟨x2, rfl, LL _ (by omega), LL _ (by simp only [zbD, zaU, zaV, zdD]; omega), LL _ (by simp only [zbD, zaU, zaV, zdD]; omega), h1, ?_⟩
    refine hN _ _ _ ⟨⟨_, _, _, rfl⟩, zbq s hpn, zab, ts ++ [_], by rw [List.map_append]; rfl, ?_⟩
    rw [List.map_append, h2, zaC hwi, List.map_append]
    congr 1
    show [sg _] = [wpL P1.2]
    rw [zcd, zcd, zcd, zcd, zcd, hx1, hx2, zb7, zeN]
    unfold wpL
    simp only [List.append_assoc, List.nil_append, List.cons_append, zg7]
 · rintro σ' ys H' ⟨_, s, h1, ts, rfl, h2⟩
   rw [List.length_map, hlen, List.take_of_length_le (Nat.le_refl _)] at h2
   have hl2 : ts.length = w'.length := by have := congrArg List.length h2; rw [List.length_map, List.length_map] at this; exact this
   refine ⟨_, rfl, _, .inl ⟨_, SqL.of h1, rfl⟩, ?_⟩
   cases hts : ts with
   | nil =>
    rw [hts] at hl2
    have hw0 : w' = [] := List.length_eq_zero_iff.mp hl2.symm
    exact iteF (q _ _ (s1.trans s) (by rw [sg_minus, zez, if_pos hw0]))
   | cons t0 tr =>
    have hw0 : w' ≠ [] := fun z => by rw [z, hts] at hl2; cases hl2
    rw [← hts]
    refine zkO (by rw [hts]; rfl) ⟨rfl, _, rfl, _, p, ts, rfl, rfl, SqL.of h1, zdE (by rw [zd4]; decide) (fun t ht => ?_) (by omega), q _ _ (s1.trans s) ?_⟩
    · obtain ⟨z, hz, e⟩ := List.mem_map.mp (show sg t ∈ w'.map wpL by rw [← h2]; exact List.mem_map_of_mem ht)
      rw [zaF, ← e]
      exact zhZ (wok.ok z hz).1 (wsm z hz).1 (wsm z hz).2
    · rw [zcp, h2, zdy, zez, if_neg hw0]
theorem zeY (F : Fun K "show_piece" "show_piece" zbm f fd) (G_check_piece : Γ14 P w K mg base) : FnOk P w K mg base CX0 5 f fd ["piece"] (zf0) := by
 refine F.ok sc_show_piece (fun vs H Q E h => ?_) (fun cdv A outer s H vs Q E hr h => ?_)
 · obtain ⟨a, w', rfl, hw, wok, wsm, q⟩ := h
   rfl
 obtain ⟨a, w', rfl, hw, wok, wsm, q⟩ := h
 refine ⟨_, (zad (zaM (zao G_check_piece (hr.mono (by decide)) rfl (zaa (pv 0) zac)))
  (zad (zcz (N' := ["field", "number"]) (js := [none, none]) (i := 1) sc_show_piece.nd rfl (Or.inl rfl) rfl (zb5 (N := ["piece", "parts"]) (outer := zag zbm) (by decide +kernel)) (zce (pv 0)) (fun _ _ _ _ _ => (zeV K rfl (n := 2) rfl (zam (zai (i := 0) (show List.Nodup (["field", "number"] : List Str) by decide +kernel) rfl (Or.inl rfl)) (zam (zai (i := 1) (show List.Nodup (["field", "number"] : List Str) by decide +kernel) rfl (Or.inl rfl)) zaR)))) (fun _ _ _ _ _ => zaJ) (fun _ _ _ _ _ => (ziu (pj_s (pv 0) (pj_c (pj_i (pv 1) zj5))))))
  (zah (zaj (zaY (zhb (pv 1) (fun _ => rfl)) (zcM PySem.F.plainAttrs_str PySem.F.slot_str_join PySem.F.type_str_join zdc zaG (zaa (pv 1) zac)) zaG))))), ?_⟩
 refine ⟨_, rfl, a, w', rfl, hw, wok, fun H1 s1 => ?_⟩
 have hw1 := hw.same s1
 obtain ⟨ps, hps, ha, hp⟩ := hw1
 refine ⟨_, rfl, a, rfl, ⟨_, SqT.of ha⟩, fun p hpn => ?_⟩
 have s0 := zae hpn (.lst [])
 have hlen : ps.length = w'.length := by rw [← hps, List.length_map]
 have h100 := wok.len
 refine zdk (K := K) (a := a) (xs := ps.map fun p => V.ref p.1) (fun i σ' ys H' => (∃ v1 v2, σ' = [v1, v2]) ∧ Same H1 H' ∧ H' p = some (.lst ys) ∧ ∃ ts : List Str, ys = ts.map V.str ∧ ts.map sg = (w'.take i).map ppL) ?_ ?_ ?_ ?_
 · exact ⟨⟨none, none, rfl⟩, s0, zab, [], rfl, rfl⟩
 · rintro i σ' ys H' hi ⟨_, s, h1, ts, rfl, h2⟩
   refine ⟨SqT.of (s _ _ ha), h1, ?_⟩
   rw [List.length_map]
   have := congrArg List.length h2
   rw [List.length_map, List.length_map, List.length_take] at this
   exact zap (by omega)
 · rintro i y σ' ys H' N hy ⟨⟨v1, v2, rfl⟩, s, h1, ts, rfl, h2⟩ hN
   rw [List.getElem?_map] at hy
   cases hc : ps[i]? with
   | none => rw [hc] at hy; cases hy
   | some P1 =>
    rw [hc] at hy
    obtain rfl : V.ref P1.1 = y := Option.some.inj hy
    have hm : P1 ∈ ps := List.mem_of_getElem? hc
    have hwi : w'[i]? = some P1.2 := by rw [← hps, List.getElem?_map, hc]; rfl
    have hwm : P1.2 ∈ w' := List.mem_of_getElem? hwi
    have F1 := wok.ok _ hwm
    have sm := wsm _ hwm
    have l8 := F1.eight
    have e1 := zca sm
    refine ⟨P1.1, _, rfl, SqT.of (s _ _ (hp P1 hm)), rfl, _, _, rfl, _, _, rfl, rfl, ?_⟩
    have LL : ∀ z : Str, z.length ≤ 200 → z.length ≤ sizeLine := fun z hz => zgd (by omega)
    have n1 : (Str.ofString (toString P1.2.2)).length ≤ 17 := by rw [zaF]; exact e1
    refine ⟨_, rfl, _, rfl, LL _ (by omega), LL _ (by simp only [zbD, zaU]; omega), LL _ (by simp only [zbD, zaU, zaV]; omega), _, rfl, _, rfl, ziK sm, LL _ (by simp only [zbD, zaU, zaV]; omega), LL _ (by simp only [zbD, zaU, zaV]; omega), h1, ?_⟩
    refine hN _ _ _ ⟨⟨_, _, rfl⟩, zbq s hpn, zab, ts ++ [_], by rw [List.map_append]; rfl, ?_⟩
    rw [List.map_append, h2, zaC hwi, List.map_append]
    congr 1
    show [sg _] = [ppL P1.2]
    rw [zcd, zcd, zcd, zb7]
    unfold ppL
    simp only [List.append_assoc, List.nil_append, List.cons_append, zg7]
    rfl
 · rintro σ' ys H' ⟨_, s, h1, ts, rfl, h2⟩
   rw [List.length_map, hlen, List.take_of_length_le (Nat.le_refl _)] at h2
   have hl2 : ts.length = w'.length := by have := congrArg List.length h2; rw [List.length_map, List.length_map] at this; exact this
   refine ⟨_, rfl, _, .inl ⟨_, SqL.of h1, rfl⟩, ?_⟩
   cases hts : ts with
   | nil =>
    rw [hts] at hl2
    have hw0 : w' = [] := List.length_eq_zero_iff.mp hl2.symm
    exact iteF (q _ _ (s1.trans s) (by rw [sg_minus, zcF, if_pos hw0]))
   | cons t0 tr =>
    have hw0 : w' ≠ [] := fun z => by rw [z, hts] at hl2; cases hl2
    rw [← hts]
    refine zkO (by rw [hts]; rfl) ⟨rfl, _, rfl, _, p, ts, rfl, rfl, SqL.of h1, zdE (by rw [zd4]; decide) (fun t ht => ?_) (by omega), q _ _ (s1.trans s) ?_⟩
    · obtain ⟨z, hz, e⟩ := List.mem_map.mp (show sg t ∈ w'.map ppL by rw [← h2]; exact List.mem_map_of_mem ht)
      rw [zaF, ← e]
      exact zin (wok.ok z hz) (wsm z hz)
    · rw [zcp, h2, zdy, zcF, if_neg hw0]
theorem zfw (F : Fun K "read_wish" "read_wish" zbF f fd) (G_check_text : Γ20 P w K mg base) (G_check_written : Γ19 P w K mg base cNoText) (G_is_wish : Γ11 P w K mg base) (G_wish_part_in : Γ26 P w K mg base) (G_words_in : Γ22 P w K mg base) : FnOk P w K mg base CX0 8 f fd ["text"] (zf2) := by
 refine F.ok sc_read_wish (fun vs H Q E h => ?_) (fun cdv A outer s H vs Q E hr h => ?_)
 · obtain ⟨x, w', rfl, wok, wsm, hx, q⟩ := h
   rfl
 obtain ⟨x, w', rfl, wok, wsm, hx, q⟩ := h
 refine ⟨_, (zad (zaM (zao G_check_text (hr.mono (by decide)) rfl (zaa (pv 0) zac)))
  (zad (zaw (i := 1) sc_read_wish.nd rfl (Or.inl rfl) (zbI zbB rfl B.tuple_ zbc (zaa (zdq (N' := ["word"]) (js := [none]) rfl (zb5 (N := ["text", "wish"]) (outer := zag zbF) (by decide +kernel)) (zc8 (zao G_words_in (hr.mono (by decide)) rfl (zaa (pv 0) zac))) (fun _ _ _ _ _ => (zai (i := 0) (show List.Nodup (["word"] : List Str) by decide +kernel) rfl (Or.inl rfl))) (fun _ _ _ _ _ => zaJ) (fun _ _ _ _ _ => (zao G_wish_part_in (hr.mono (by decide)) rfl (zaa (pv 0) zac)))) zac)))
  (zad (zaM (zao (FnHX.calm G_check_written) (hr.mono (by decide)) rfl (zaa (zao G_is_wish (hr.mono (by decide)) rfl (zaa (pv 1) zac)) zac)))
  (zah (zaj (pv 1)))))), ?_⟩
 have L1 : x.length ≤ 100000 := by
  rw [zaF, hx]
  unfold zez
  split
  · decide
  · have h1 := zjL (sep := [32]) (by decide) (ws := w'.map wpL) fun v hv => by
     obtain ⟨z, hz, rfl⟩ := List.mem_map.mp hv
     exact zhZ (wok.ok z hz).1 (wsm z hz).1 (wsm z hz).2
    rw [List.length_map] at h1
    have := wok.len
    omega
 have h100 := wok.len
 refine ⟨_, rfl, x, rfl, ?_⟩
 refine ⟨_, rfl, x, w'.map wpL, rfl, L1, zhr wok hx, fun l ts hts hl => ?_⟩
 have sl := zae hl (.lst (ts.map V.str))
 have el : (upd H l (.lst (ts.map V.str))) l = some (.lst (ts.map V.str)) := zab
 generalize upd H l (.lst (ts.map V.str)) = Hl at sl el
 have hlen : ts.length = w'.length := by have := congrArg List.length hts; rw [List.length_map, List.length_map] at this; exact this
 refine ⟨l, rfl, ⟨_, SqL.of el⟩, fun p hp => ?_⟩
 have s0 := zae hp (.lst [])
 refine zgO (K := K) (a := l) (xs := ts.map V.str) (fun i σ' ys H' => (∃ v, σ' = [v]) ∧ Same Hl H' ∧ H' p = some (.lst ys) ∧ ∃ qs : List (Addr × WP), ys = qs.map (fun q => V.ref q.1) ∧ qs.map (·.2) = w'.take i ∧ ∀ q ∈ qs, H' q.1 = some (.tup [.str q.2.1, eV q.2.2.1, eV q.2.2.2])) ?_ ?_ ?_ ?_
 · exact ⟨⟨none, rfl⟩, s0, zab, [], rfl, rfl, fun q hq => by simp at hq⟩
 · rintro i σ' ys H' hi ⟨_, s, h1, qs, rfl, h2, _⟩
   refine ⟨SqL.of (s _ _ el), h1, ?_⟩
   rw [List.length_map]
   have := congrArg List.length h2
   rw [List.length_map, List.length_take] at this
   exact zap (by omega)
 · rintro i y σ' ys H' N hy ⟨⟨v, rfl⟩, s, h1, qs, rfl, h2, h3⟩ hN
   rw [List.getElem?_map] at hy
   cases hc : ts[i]? with
   | none => rw [hc] at hy; cases hy
   | some t =>
    rw [hc] at hy
    obtain rfl : V.str t = y := Option.some.inj hy
    have ht := congrArg (fun z => z[i]?) hts
    simp only [List.getElem?_map, hc, Option.map_some] at ht
    cases hwi : w'[i]? with
    | none => rw [hwi] at ht; cases ht
    | some z =>
     rw [hwi] at ht
     have ht : sg t = wpL z := Option.some.inj ht
     have hwm : z ∈ w' := List.mem_of_getElem? hwi
     have sm := wsm z hwm
     refine ⟨_, rfl, t, z, rfl, ht, (wok.ok z hwm).1, sm.1, sm.2, fun u H2 s2 hu eu => ⟨s2 _ _ h1, hN _ _ _ ⟨⟨_, rfl⟩, ?_, zab, qs ++ [(u, z)], ?_, ?_, ?_⟩⟩⟩
     · exact zbq (s.trans s2) hp
     · rw [List.map_append]; rfl
     · rw [List.map_append, h2, zaC hwi]; rfl
     · intro q hq
       have hqp : ∀ {b : Addr} {o : HO}, H2 b = some o → b = p → o = .lst (qs.map fun q => V.ref q.1) := fun e z => by rw [z, s2 _ _ h1] at e; exact (Option.some.inj e).symm
       rcases List.mem_append.mp hq with z' | z'
       · have e := s2 _ _ (h3 q z')
         rw [zak (fun z => by cases hqp e z)]
         exact e
       · rw [List.mem_singleton.mp z']
         rw [zak (fun z => by cases hqp eu z)]
         exact eu
 · rintro σ' ys H' ⟨_, s, h1, qs, rfl, h2, h3⟩
   rw [List.length_map, hlen, List.take_of_length_le (Nat.le_refl _)] at h2
   have t1 := sl.trans s
   refine ⟨p, _, rfl, .inl ⟨SqL.of h1, fun t ht => ?_⟩⟩
   have st := zae ht (.tup (qs.map fun q => V.ref q.1))
   have WA : WishAt (upd H' t (.tup (qs.map fun q => V.ref q.1))) t w' := ⟨qs, h2, zab, fun q hq => st _ _ (h3 q hq)⟩
   refine ⟨_, rfl, t, w', rfl, WA, wok, fun H5 s5 => ⟨true, rfl, fun _ => ?_, fun z => by cases z⟩⟩
   exact ⟨_, rfl, q t H5 (t1.trans (st.trans s5)) (WA.same s5)⟩
theorem zeZ (F : Fun K "read_piece" "read_piece" zbn f fd) (G_check_text : Γ20 P w K mg base) (G_check_written : Γ19 P w K mg base cNoText) (G_is_piece : Γ12 P w K mg base) (G_piece_part_in : Γ27 P w K mg base cNoText) (G_words_in : Γ22 P w K mg base) : FnOk P w K mg base (CXE P w base) 7 f fd ["text"] (zf3 cNoText) := by
 refine F.okX sc_read_piece (fun vs H Q E h => ?_) (fun cdv A outer s H vs Q E hr h => ?_)
 · obtain ⟨x, w', rfl, wok, wmd, hx, q1, q2⟩ := h
   rfl
 obtain ⟨x, w', rfl, wok, wmd, hx, q1, q2⟩ := h
 refine ⟨_, (zad (zaM (zao G_check_text (hr.mono (by decide)) rfl (zaa (pv 0) zac)))
  (zad (zaw (i := 1) sc_read_piece.nd rfl (Or.inl rfl) (zbI zbB rfl B.tuple_ zbc (zaa (zlv zkH (N' := ["word"]) (js := [none]) rfl (zb5 (N := ["text", "piece"]) (outer := zag zbn) (by decide +kernel)) (zc8 (zao G_words_in (hr.mono (by decide)) rfl (zaa (pv 0) zac))) (fun _ _ _ _ _ => (zai (i := 0) (show List.Nodup (["word"] : List Str) by decide +kernel) rfl (Or.inl rfl))) (fun _ _ _ _ _ => zaJ) (fun _ _ _ _ _ _ => (zj7 G_piece_part_in (hr.mono (by decide)) rfl (zaa (pv 0) zac)))) zac)))
  (zad (zaM (zdU G_check_written (hr.mono (by decide)) rfl (zaa (zao G_is_piece (hr.mono (by decide)) rfl (zaa (pv 1) zac)) zac)))
  (zah (zaj (pv 1)))))), ?_⟩
 have L1 : x.length ≤ 100000 := by
  rw [zaF, hx]
  unfold zcF
  split
  · decide
  · have h1 := zjL (sep := [32]) (by decide) (ws := w'.map ppL) fun v hv => by
     obtain ⟨z, hz, rfl⟩ := List.mem_map.mp hv
     exact zin (wok.ok z hz) (wmd z hz)
    rw [List.length_map] at h1
    have := wok.len
    omega
 have h100 := wok.len
 refine ⟨_, rfl, x, rfl, ?_⟩
 refine ⟨_, rfl, x, w'.map ppL, rfl, L1, zfT wok hx, fun l ts hts hl => ?_⟩
 have sl := zae hl (.lst (ts.map V.str))
 have el : (upd H l (.lst (ts.map V.str))) l = some (.lst (ts.map V.str)) := zab
 generalize upd H l (.lst (ts.map V.str)) = Hl at sl el
 have hlen : ts.length = w'.length := by have := congrArg List.length hts; rw [List.length_map, List.length_map] at this; exact this
 refine ⟨l, rfl, ⟨_, SqL.of el⟩, fun p hp => ?_⟩
 have s0 := zae hp (.lst [])
 refine zgO (K := K) (a := l) (xs := ts.map V.str) (fun i σ' ys H' => (∃ v, σ' = [v]) ∧ Same Hl H' ∧ H' p = some (.lst ys) ∧ PSm (w'.take i) ∧ ∃ qs : List (Addr × PP), ys = qs.map (fun q => V.ref q.1) ∧ qs.map (·.2) = w'.take i ∧ ∀ q ∈ qs, H' q.1 = some (.tup [.str q.2.1, .int q.2.2])) ?_ ?_ ?_ ?_
 · exact ⟨⟨none, rfl⟩, s0, zab, (fun z hz => by simp at hz), [], rfl, rfl, fun q hq => by simp at hq⟩
 · rintro i σ' ys H' hi ⟨_, s, h1, ip, qs, rfl, h2, _⟩
   refine ⟨SqL.of (s _ _ el), h1, ?_⟩
   rw [List.length_map]
   have := congrArg List.length h2
   rw [List.length_map, List.length_take] at this
   exact zap (by omega)
 · rintro i y σ' ys H' N hy ⟨⟨v, rfl⟩, s, h1, ip, qs, rfl, h2, h3⟩ hN
   rw [List.getElem?_map] at hy
   cases hc : ts[i]? with
   | none => rw [hc] at hy; cases hy
   | some t =>
    rw [hc] at hy
    obtain rfl : V.str t = y := Option.some.inj hy
    have ht := congrArg (fun z => z[i]?) hts
    simp only [List.getElem?_map, hc, Option.map_some] at ht
    cases hwi : w'[i]? with
    | none => rw [hwi] at ht; cases ht
    | some z =>
     rw [hwi] at ht
     have ht : sg t = ppL z := Option.some.inj ht
     have hwm : z ∈ w' := List.mem_of_getElem? hwi
     by_cases sm : Sm z.2
     · refine ⟨_, rfl, t, z, rfl, ht, wok.ok z hwm, wmd z hwm, fun _ u H2 s2 hu eu => ⟨s2 _ _ h1, hN _ _ _ ⟨⟨_, rfl⟩, ?_, zab, ?_, qs ++ [(u, z)], ?_, ?_, ?_⟩⟩, fun h => absurd sm h⟩
       · exact zbq (s.trans s2) hp
       · rw [zaC hwi]
         intro z' hz'
         rcases List.mem_append.mp hz' with e | e
         · exact ip z' e
         · rw [List.mem_singleton.mp e]; exact sm
       · rw [List.map_append]; rfl
       · rw [List.map_append, h2, zaC hwi]; rfl
       · intro q hq
         have hqp : ∀ {b : Addr} {o : HO}, H2 b = some o → b = p → o = .lst (qs.map fun q => V.ref q.1) := fun e z => by rw [z, s2 _ _ h1] at e; exact (Option.some.inj e).symm
         rcases List.mem_append.mp hq with z' | z'
         · have e := s2 _ _ (h3 q z')
           rw [zak (fun z => by cases hqp e z)]
           exact e
         · rw [List.mem_singleton.mp z']
           rw [zak (fun z => by cases hqp eu z)]
           exact eu
     · exact ⟨_, rfl, t, z, rfl, ht, wok.ok z hwm, wmd z hwm, fun h => absurd h sm, fun _ H2 s2 => q2 (fun h => sm (h z hwm)) H2 (sl.trans (s.trans s2))⟩
 · rintro σ' ys H' ⟨_, s, h1, ip, qs, rfl, h2, h3⟩
   rw [List.length_map, hlen, List.take_of_length_le (Nat.le_refl _)] at h2
   have t1 := sl.trans s
   refine ⟨p, _, rfl, .inl ⟨SqL.of h1, fun t ht => ?_⟩⟩
   have st := zae ht (.tup (qs.map fun q => V.ref q.1))
   have WA : PieceAt (upd H' t (.tup (qs.map fun q => V.ref q.1))) t w' := ⟨qs, h2, zab, fun q hq => st _ _ (h3 q hq)⟩
   refine ⟨_, rfl, t, w', rfl, WA, wok, fun H5 s5 => ⟨true, rfl, fun _ => ?_, fun z => by cases z⟩⟩
   exact ⟨_, rfl, q1 (by rw [List.length_map, hlen, List.take_of_length_le (Nat.le_refl _)] at ip; exact ip) t H5 (t1.trans (st.trans s5)) (WA.same s5)⟩
theorem zhE (F : Fun K "_law_bag" "_law_bag" zbW f fd)  : FnOk P w K mg base CX0 1 f fd ["script"] (zkx K) := by
 refine F.ok sc_law_bag (fun vs H Q E h => ?_) (fun cdv A outer s H vs Q E hr h => ?_)
 · obtain ⟨a, ns, rfl, hS, h63, q⟩ := h
   rfl
 obtain ⟨a, ns, rfl, hS, h63, q⟩ := h
 refine ⟨_, (zad (zcz (N' := ["cell"]) (js := [none]) (i := 1) sc_law_bag.nd rfl (Or.inl rfl) rfl (zb5 (N := ["script", "great", "lesser", "stir", "cell"]) (outer := zag zbW) (by decide +kernel)) (zc8 (zcV zie (pv 0) zdT (zdS zaf))) (fun _ _ _ _ _ => (zai (i := 0) (show List.Nodup (["cell"] : List Str) by decide +kernel) rfl (Or.inl rfl))) (fun _ _ _ _ _ => zcU (zav zly (pv 0) (zax zbs zaf zaf) (zau _))) (fun _ _ _ _ _ => (zax zbQ (pv 0) (zax zbs zaf zaf))))
  (zad (zcz (N' := ["cell"]) (js := [none]) (i := 2) sc_law_bag.nd rfl (Or.inl rfl) rfl (zb5 (N := ["script", "great", "lesser", "stir", "cell"]) (outer := zag zbW) (by decide +kernel)) (zc8 (zcV zie (pv 0) zdT (zdS zaf))) (fun _ _ _ _ _ => (zai (i := 0) (show List.Nodup (["cell"] : List Str) by decide +kernel) rfl (Or.inl rfl))) (fun _ _ _ _ _ => zcU (zav zkI (pv 0) (zax zbs zaf zaf) (zau _))) (fun _ _ _ _ _ => (zax zep (pv 0) (zax zbs zaf zaf))))
  (zad (zaw (i := 3) sc_law_bag.nd rfl (Or.inl rfl) zaf)
  (zad (zen PassesOwn.never rfl (zc8 (pv 2)) (zai (i := 4) sc_law_bag.nd rfl (Or.inl rfl)) (zah (zaw (i := 3) sc_law_bag.nd rfl (Or.inl rfl) (zax zep (zax zbs (zax zbR (zax zbR (pv 3) (pv 4)) zaf) zaf) zaf))))
  (zah (zaj (zcf (zaa (pv 1) (zaa (zax zlA (pv 2) (zcf (zaa zaf zac))) (zaa zaf (zaa (pv 3) zac))))))))))), ?_⟩
 have e18 : (10 : Int) ^ (18 : Int).toNat = 10 ^ 18 := by decide
 have cut : cutV (ns.map V.int) none (some 63) = ns.map V.int := by
  unfold cutV
  rw [show HT.sIx (ns.map V.int).length 0 none = 0 from rfl, show HT.sIx (ns.map V.int).length (ns.map V.int).length (some 63) = min 63 (ns.map V.int).length from HT.sIx_nat _ _ 63]
  rw [List.drop_zero]
  exact List.take_of_length_le (by rw [List.length_map]; omega)
 refine ⟨_, rfl, _, rfl, a, _, rfl, hS, fun p1 hp1 => ⟨p1, rfl, ⟨_, SqL.of zab⟩, fun p hp => ?_⟩⟩
 refine ziM (cap := []) ns (fun n => n - 10 ^ (18 : Int).toNat) (fun n => decide ((10 : Int) ^ (18 : Int).toNat ≤ n)) (by omega) (SqL.of (by rw [zab, cut])) hp ?_ ?_ ?_ ?_
 · rfl
 · exact fun n H' R s r => ⟨_, rfl, _, _, rfl, rfl, pw10 (by decide) (by decide), _, _, rfl, rfl, _, rfl, r⟩
 · exact fun n H' R s r => ⟨_, rfl, _, _, rfl, rfl, pw10 (by decide) (by decide), _, _, rfl, rfl, r⟩
 intro H1 s1 h1
 have t1 : Same H H1 := (zae hp1 _).trans s1
 have pn1 : H p = none := (zae hp1 _).free hp
 refine ⟨_, rfl, _, rfl, a, _, rfl, t1.seq hS, fun p2 hp2 => ⟨p2, rfl, ⟨_, SqL.of zab⟩, fun p' hp' => ?_⟩⟩
 refine ziM (cap := []) ns (fun n => n % 10 ^ (18 : Int).toNat) (fun n => decide (n < (10 : Int) ^ (18 : Int).toNat)) (by omega) (SqL.of (by rw [zab, cut])) hp' ?_ ?_ ?_ ?_
 · rfl
 · exact fun n H' R s r => ⟨_, rfl, _, _, rfl, rfl, pw10 (by decide) (by decide), _, _, rfl, rfl, _, rfl, r⟩
 · exact fun n H' R s r => ⟨_, rfl, _, _, rfl, rfl, pw10 (by decide) (by decide), _, _, rfl, rfl, (by show (0 : Int) < 10 ^ (18 : Int).toNat; decide), r⟩
 intro H2 s2 h2
 have t12 : Same H1 H2 := (zae hp2 _).trans s2
 have t2 : Same H H2 := t1.trans t12
 have g2 := t12 _ _ h1
 have lb : ∀ x ∈ (ns.filter fun n => decide (n < (10 : Int) ^ (18 : Int).toNat)).map (fun n => n % 10 ^ (18 : Int).toNat), 0 ≤ x ∧ x < 10 ^ 18 := fun x hx => by
  obtain ⟨y, _, rfl⟩ := List.mem_map.mp hx
  rw [e18]
  exact ⟨Int.emod_nonneg _ (by decide), Int.emod_lt_of_pos _ (by decide)⟩
 have ll := List.length_filter_le (fun n => decide (n < (10 : Int) ^ (18 : Int).toNat)) ns
 have gg := List.length_filter_le (fun n => decide ((10 : Int) ^ (18 : Int).toNat ≤ n)) ns
 generalize hls : (ns.filter fun n => decide (n < (10 : Int) ^ (18 : Int).toNat)).map (fun n => n % 10 ^ (18 : Int).toNat) = ls at *
 have lz : ls.length ≤ 63 := by rw [← hls, List.length_map]; omega
 have gz : ((ns.filter fun n => decide ((10 : Int) ^ (18 : Int).toNat ≤ n)).map fun n => n - 10 ^ (18 : Int).toNat).length ≤ 63 := by rw [List.length_map]; omega
 refine ⟨_, rfl, p', rfl, ⟨_, SqL.of h2⟩, ze6 (K := K) (a := p') (xs := ls.map V.int) (fun i σ H' => ∃ (st : Int) (x4 : Option V), σ = [some (.ref a), some (.ref p), some (.ref p'), some (.int st), x4] ∧ H' = H2 ∧ 0 ≤ st ∧ st < bigM) ⟨5, none, rfl, rfl, by decide, by decide⟩ (fun i σ H' _ ⟨_, _, _, e, _⟩ => by rw [e]; exact SqL.of h2) ?_ ?_⟩
 · rintro i x σ H' hx ⟨st, x4, rfl, rfl, z0, z1⟩
   rw [List.getElem?_map] at hx
   cases hn : ls[i]? with
   | none => rw [hn] at hx; cases hx
   | some y =>
    rw [hn] at hx
    obtain rfl : V.int y = x := Option.some.inj hx
    obtain ⟨y0, y1⟩ := lb y (List.mem_of_getElem? hn)
    have big : (st + y + 1).natAbs < 2 ^ 1000 := by
     have : (st + y + 1).natAbs < 2 ^ 100 := by unfold bigM at z1; omega
     exact Nat.lt_of_lt_of_le this (by decide)
    refine ⟨_, rfl, _, rfl, _, _, rfl, rfl, _, _, rfl, rfl, _, _, rfl, rfl, ⟨by decide, by decide, big⟩, _, _, rfl, rfl, (by show (0 : Int) < 618970019642690137449562111; decide), _, _, rfl, rfl, Int.emod_nonneg _ (by decide), Int.emod_lt_of_pos _ (by decide)⟩
 · rintro σ H' ⟨st, x4, rfl, rfl, z0, z1⟩
   refine ⟨_, rfl, _, rfl, (by show 1 ≤ sizeLine; decide), fun p3 hp3 => ?_⟩
   have s3 := zae hp3 (.lst [V.int 0])
   refine ⟨p', p3, _, _, rfl, rfl, s3 _ _ h2, zab, (by rw [List.length_map, List.length_singleton]; exact zgd (by omega)), fun p4 hp4 => ?_⟩
   have s4 := zae hp4 (.lst (ls.map V.int ++ [V.int 0]))
   refine ⟨_, rfl, (by show 4 ≤ sizeLine; decide), fun p5 hp5 => ?_⟩
   have s5 := zae hp5 (.lst [V.ref p, V.ref p4, V.int 0, V.int st])
   have t5 : Same H' _ := s3.trans (s4.trans s5)
   have n4 : H' p4 = none := s3.free hp4
   refine q p5 p p4 _ ⟨⟨_, ls ++ [0], 0, st, zab, t5 _ _ g2, ?_, gz, by simp, by rw [List.length_append]; simp; omega, ?_, by decide, by decide, z0, z1⟩, ?_⟩ (t2.trans t5) (t2.free ((s3.trans s4).free hp5)) pn1
   · refine s5 _ _ ?_
     rw [zab, List.map_append]
     rfl
   · intro x hx
     rcases List.mem_append.mp hx with z | z
     · exact lb x z
     · rw [List.mem_singleton.mp z]; exact ⟨by decide, by decide⟩
   · exact zar g2 n4
theorem zgB (F : Fun K "_law_draw" "_law_draw" zcw f fd)  : FnOk P w K mg base CX0 1 f fd ["bag", "many"] (zib) := by
 refine F.ok sc_law_draw (fun vs H Q E h => ?_) (fun cdv A outer s H vs Q E hr h => ?_)
 · obtain ⟨b, g, l, n, many, rfl, Bg, hn, hm, hm2, q⟩ := h
   rfl
 obtain ⟨b, g, l, n, many, rfl, Bg, hn, hm, hm2, q⟩ := h
 refine ⟨_, (zad (zjz PassesOwn.never (PW.pt (zfr (zav (zj9 (zcR hr)) (zaA zaD (pv 0) zaf (fun _ _ => rfl)) (zcf zac) (zau _)) (zeU (zav zb3 (zaA zaD (zaA zaD (pv 0) zaf (fun _ _ => rfl)) zaf (fun _ _ => rfl)) zaf (zau _))))) (zah (zaM (zcM PySem.F.plainAttrs_list PySem.F.slot_list_pop PySem.F.type_list_pop zjI (zaA zaD (pv 0) zaf (fun _ _ => rfl)) (zaa zaf zac)))))
  (zad (zaI (zav (zj9 (zcR hr)) (zaA zaD (pv 0) zaf (fun _ _ => rfl)) (zcf zac) (zau _)) (zad (zaw (i := 2) sc_law_draw.nd rfl (Or.inl rfl) (zax zep (zaA zaD (zaA zaD (pv 0) zaf (fun _ _ => rfl)) zaf (fun _ _ => rfl)) (pv 1)))
  (zad (zb0 (zax zhd (zaA zaD (zaA zaD (pv 0) zaf (fun _ _ => rfl)) zaf (fun _ _ => rfl)) (pv 1)) (zit (zaA zaD (pv 0) zaf (fun _ _ => rfl)) zaf zeO))
  (zah (zaj (pv 2))))) zaq)
  (zad (zb0 (zax zbR (zaA zaD (pv 0) zaf (fun _ _ => rfl)) zaf) (zit (pv 0) zaf zeO))
  (zad (zaw (i := 3) sc_law_draw.nd rfl (Or.inl rfl) (zaA zaD (zaA zaD (pv 0) zaf (fun _ _ => rfl)) (zax zep (zaA zaD (pv 0) zaf (fun _ _ => rfl)) (zan zaO rfl B.len_ zc2 (zaa (zaA zaD (pv 0) zaf (fun _ _ => rfl)) zac))) (fun _ _ => rfl)))
  (zad (zb0 (zax zep (zax zbs (zax zbR (zaA zaD (pv 0) zaf (fun _ _ => rfl)) (zax zeo (zax zbR (pv 3) (zax zeo zaf (zaA zaD (pv 0) zaf (fun _ _ => rfl)))) (zax zbR (zax zeo zaf (zaA zaD (pv 0) zaf (fun _ _ => rfl))) zaf))) zaf) zaf) (zit (pv 0) zaf zeO))
  (zah (zaj (zax zep (zax zhd (zaA zaD (pv 0) zaf (fun _ _ => rfl)) zaf) (pv 1))))))))), ?_⟩
 refine zhs (fun m σ H1 => σ = [some (.ref b), some (.int many), none, none] ∧ Bag H1 b g l n ∧ SameB b g H H1 ∧ ∃ gs : List Int, H1 g = some (.lst (gs.map V.int)) ∧ gs.length = m)
  (fun σ H1 => σ = [some (.ref b), some (.int many), none, none] ∧ Bag H1 b g l n ∧ SameB b g H H1) ?_ ?_ ?_
 · obtain ⟨gs, ls, c, st, e1, e2, _⟩ := Bg.ex
   exact ⟨_, rfl, Bg, SameB.refl _ _ _, gs, e2, rfl⟩
 · rintro m σ H1 Z ⟨rfl, B1, S1, gs, e2, rfl⟩ hZ
   obtain ⟨gs', ls, c, st, e1, e2', e3, z1, z2, z3, z4, z5, z6, z7, z8⟩ := id B1.ex
   obtain rfl : gs = gs' := by
    rw [e2] at e2'
    injection e2' with e2'
    injection e2' with e2'
    exact (List.map_inj_right (fun _ _ z => by injection z)).mp e2'
   refine ⟨_, rfl, b, _, 0, _, rfl, rfl, SqL.of e1, rfl, sz0, fun p hp => ?_⟩
   have s1 := zae hp (.lst [])
   refine zlE (SqL.of (s1 _ _ e2)) (SqL.of zab) ⟨_, rfl, ?_⟩
   cases gs with
   | nil => exact iteF (iteF (hZ _ _ ⟨rfl, B1.same s1, S1.trans s1.sameB⟩))
   | cons x r =>
    refine iteT ?_
    refine ⟨_, rfl, b, _, 0, _, rfl, rfl, SqL.of (s1 _ _ e1), rfl, g, _, 0, _, rfl, rfl, SqL.of (s1 _ _ e2), at0, rfl, _, rfl, ?_⟩
    refine ite2 (fun hx => ?_) (fun hx => ?_)
    · refine ⟨fun σ H2 => σ = [some (.ref b), some (.int many), none, none] ∧ Bag H2 b g l n ∧ SameB b g H H2 ∧ ∃ gs : List Int, H2 g = some (.lst (gs.map V.int)) ∧ gs.length = r.length, fun σ H2 z => ⟨r.length, Nat.lt_succ_self _, z⟩, ?_⟩
      refine ⟨_, rfl, b, _, 0, _, rfl, rfl, SqL.of (s1 _ _ e1), rfl, .inl ⟨rfl, _, SqL.of (s1 _ _ e2)⟩, g, _, 0, 0, _, rfl, rfl, s1 _ _ e2, by decide, by decide, (zgQ (ix0 (x := V.int x) (r := r.map V.int))).1, rfl, ?_⟩
      have e4 : (upd (upd H1 p (.lst [])) g (.lst (((x :: r).map V.int).eraseIdx 0))) g = some (.lst (r.map V.int)) := zab
      refine ⟨rfl, ⟨⟨r, ls, c, st, ?_, e4, ?_, ?_, z2, z3, z4, z5, z6, z7, z8⟩, B1.gl⟩, ?_, r, e4, rfl⟩
      · rw [zak B1.bg]; exact s1 _ _ e1
      · rw [zak (Ne.symm B1.gl)]; exact s1 _ _ e3
      · simp only [List.length_cons] at z1; omega
      · intro a o h1 h2 h3
        rw [zak h3]
        exact s1 _ _ (S1 a o h1 h2 h3)
    · exact hZ _ _ ⟨rfl, B1.same s1, S1.trans s1.sameB⟩
 · rintro σ H1 ⟨rfl, B1, S1⟩
   obtain ⟨gs, ls, c, st, e1, e2, e3, z1, z2, z3, z4, z5, z6, z7, z8⟩ := id B1.ex
   refine ⟨_, rfl, b, _, 0, _, rfl, rfl, SqL.of e1, rfl, sz0, fun p hp => ?_⟩
   have s1 := zae hp (.lst [])
   have B2 := B1.same s1
   have e1' := s1 _ _ e1
   have e2' := s1 _ _ e2
   have e3' := s1 _ _ e3
   refine zlE (SqL.of e2') (SqL.of zab) ⟨_, rfl, ?_⟩
   generalize upd H1 p (.lst []) = H2 at *
   have S2 : SameB b g H H2 := S1.trans s1.sameB
   clear s1
   cases gs with
   | cons x r =>
    refine iteT ?_
    refine ⟨_, rfl, b, _, 0, _, rfl, rfl, SqL.of e1', rfl, g, _, 0, _, rfl, rfl, SqL.of e2', at0, _, rfl, _, _, rfl, rfl, hm, ?_⟩
    refine ⟨_, rfl, b, _, 0, _, rfl, rfl, SqL.of e1', rfl, g, _, 0, _, rfl, rfl, SqL.of e2', at0, _, rfl, _, _, rfl, rfl, ⟨hm, Int.lt_of_lt_of_le hm2 (by decide)⟩, ?_⟩
    refine ⟨_, rfl, b, _, 0, _, rfl, rfl, SqL.of e1', rfl, g, _, 0, 0, rfl, rfl, e2', ix0, ?_⟩
    refine ⟨_, rfl, ?_⟩
    refine q _ _ (Int.emod_nonneg _ (by omega)) (Int.emod_lt_of_pos _ hm) ⟨⟨x / many :: r, ls, c, st, ?_, ?_, ?_, z1, z2, z3, z4, z5, by omega, z7, z8⟩, B1.gl⟩ ?_
    · rw [zak B1.bg]; exact e1'
    · exact zab
    · rw [zak (Ne.symm B1.gl)]; exact e3'
    · intro a o h1 h2 h3
      rw [zak h3]
      exact S2 a o h1 h2 h3
   | nil =>
    refine iteF ?_
    refine ⟨_, rfl, b, _, 2, _, rfl, rfl, SqL.of e1', rfl, _, _, rfl, rfl, _, rfl, b, _, 2, 2, rfl, rfl, e1', rfl, ?_⟩
    have f1 : (upd H2 b (.lst ([V.ref g, V.ref l, V.int c, V.int st].set 2 (V.int (c + 1))))) b = some (.lst [V.ref g, V.ref l, V.int (c + 1), V.int st]) := zab
    have f2 : (upd H2 b (.lst ([V.ref g, V.ref l, V.int c, V.int st].set 2 (V.int (c + 1))))) g = some (.lst []) := by rw [zak (Ne.symm B1.bg)]; exact e2'
    have f3 : (upd H2 b (.lst ([V.ref g, V.ref l, V.int c, V.int st].set 2 (V.int (c + 1))))) l = some (.lst (ls.map V.int)) := by rw [zak (Ne.symm B1.bl)]; exact e3'
    have S3 : SameB b g H (upd H2 b (.lst ([V.ref g, V.ref l, V.int c, V.int st].set 2 (V.int (c + 1))))) := fun a o h1 h2 h3 => by rw [zak h2]; exact S2 a o h1 h2 h3
    generalize upd H2 b (.lst ([V.ref g, V.ref l, V.int c, V.int st].set 2 (V.int (c + 1)))) = H3 at *
    have lpos : (0 : Int) < ((ls.map V.int).length : Int) := by rw [List.length_map]; omega
    have i0 := Int.emod_nonneg (c + 1) (Int.ne_of_gt lpos)
    have i1 := Int.emod_lt_of_pos (c + 1) lpos
    obtain ⟨v, hv, hvm⟩ := zl4 (ls := ls) i0 (by rw [List.length_map] at i1 ⊢; exact i1)
    obtain ⟨v0, v1⟩ := z4 v hvm
    refine ⟨_, rfl, b, _, 1, _, rfl, rfl, SqL.of f1, rfl, _, rfl, b, _, 2, _, rfl, rfl, SqL.of f1, rfl, _, rfl, b, _, 1, _, rfl, rfl, SqL.of f1, rfl, l, _, rfl, .inl (SqL.of f3), _, _, rfl, rfl, lpos, l, _, _, _, rfl, rfl, SqL.of f3, hv, ?_⟩
    have c1 : 0 ≤ c + 1 := by omega
    have c2 : c + 1 ≤ 2 ^ 41 := by omega
    refine ⟨_, rfl, b, _, 3, _, rfl, rfl, SqL.of f1, rfl, _, rfl, _, rfl, b, _, 2, _, rfl, rfl, SqL.of f1, rfl, _, _, rfl, rfl, .inl ⟨by decide, by decide⟩, _, _, rfl, rfl, _, rfl, b, _, 2, _, rfl, rfl, SqL.of f1, rfl, _, _, rfl, rfl, .inl ⟨by decide, by decide⟩, _, _, rfl, rfl, _, _, rfl, rfl, .inr ⟨by omega, by omega⟩, _, _, rfl, rfl, ?_⟩
    have big : (st + (v + 3 * (c + 1)) * (2 * (c + 1) + 1)).natAbs < 2 ^ 1000 := by
     have a1 : 0 ≤ v + 3 * (c + 1) := by omega
     have a2 : v + 3 * (c + 1) ≤ 2 ^ 61 := by omega
     have a3 : 0 ≤ 2 * (c + 1) + 1 := by omega
     have a4 : 2 * (c + 1) + 1 ≤ 2 ^ 43 := by omega
     have a5 : (v + 3 * (c + 1)) * (2 * (c + 1) + 1) ≤ 2 ^ 61 * 2 ^ 43 := Int.mul_le_mul a2 a4 a3 (by decide)
     have a6 : 0 ≤ (v + 3 * (c + 1)) * (2 * (c + 1) + 1) := Int.mul_nonneg a1 a3
     generalize (v + 3 * (c + 1)) * (2 * (c + 1) + 1) = y at *
     have a7 : st + y < 2 ^ 105 := by unfold bigM at z8; omega
     have a8 : (st + y).natAbs < 2 ^ 105 := by omega
     exact Nat.lt_of_lt_of_le a8 (by decide)
    refine ⟨_, _, rfl, rfl, ⟨by decide, by decide, big⟩, _, _, rfl, rfl, (by show (0 : Int) < 618970019642690137449562111; decide), ?_⟩
    dsimp only
    generalize (st + (v + 3 * (c + 1)) * (2 * (c + 1) + 1)) ^ (7 : Int).toNat = y
    refine ⟨_, rfl, b, _, 3, 3, rfl, rfl, f1, rfl, ?_⟩
    dsimp only
    have y0 := Int.emod_nonneg y (show (618970019642690137449562111 : Int) ≠ 0 by decide)
    have y1 := Int.emod_lt_of_pos y (show (0 : Int) < 618970019642690137449562111 by decide)
    generalize y % 618970019642690137449562111 = u at *
    have k1 : (upd H3 b (.lst ([V.ref g, V.ref l, V.int (c + 1), V.int st].set 3 (V.int u)))) b = some (.lst [V.ref g, V.ref l, V.int (c + 1), V.int u]) := zab
    refine ⟨_, rfl, b, _, 3, _, rfl, rfl, SqL.of k1, rfl, _, _, rfl, rfl, ⟨by decide, by decide⟩, _, rfl, _, _, rfl, rfl, hm, ?_⟩
    refine q _ _ (Int.emod_nonneg _ (by omega)) (Int.emod_lt_of_pos _ hm) ⟨⟨[], ls, c + 1, u, k1, ?_, ?_, z1, z2, z3, z4, c1, by omega, y0, y1⟩, B1.gl⟩ ?_
    · rw [zak (Ne.symm B1.bg)]; exact f2
    · rw [zak (Ne.symm B1.bl)]; exact f3
    · intro a o h1 h2 h3
      rw [zak h2]
      exact S3 a o h1 h2 h3
theorem ze0 (F : Fun K "_law_number" "_law_number" zbK f fd) (G_law_draw : Γ33 P w K mg base) : FnOk P w K mg base CX0 2 f fd ["bag"] (zeI) := by
 refine F.ok sc_law_number (fun vs H Q E h => ?_) (fun cdv A outer s H vs Q E hr h => ?_)
 · obtain ⟨b, g, l, n, rfl, Bg, hn, q⟩ := h
   rfl
 obtain ⟨b, g, l, n, rfl, Bg, hn, q⟩ := h
 refine ⟨_, (zad (zaw (i := 1) sc_law_number.nd rfl (Or.inl rfl) (zao G_law_draw (hr.mono (by decide)) rfl (zaa (pv 0) (zaa zaf zac))))
  (zad (zaI (zav zb3 (pv 1) zaf (zau _)) (zah (zaj (zax zbQ (zao G_law_draw (hr.mono (by decide)) rfl (zaa (pv 0) (zaa zaf zac))) zaf))) zaq)
  (zad (zaI (zav zb3 (pv 1) zaf (zau _)) (zah (zaj (zax zbQ (zao G_law_draw (hr.mono (by decide)) rfl (zaa (pv 0) (zaa zaf zac))) zaf))) zaq)
  (zad (zaI (zav zb3 (pv 1) zaf (zau _)) (zah (zaj (zax zeo (zaA zaD (zcf (zaa zaf (zaa (zls zj0 zaf) zac))) (zao G_law_draw (hr.mono (by decide)) rfl (zaa (pv 0) (zaa zaf zac))) (fun _ _ => rfl)) (zax zbQ (zax zbQ (zax zbs zaf zaf) zaf) (zao G_law_draw (hr.mono (by decide)) rfl (zaa (pv 0) (zaa zaf zac))))))) zaq)
  (zad (zaw (i := 2) sc_law_number.nd rfl (Or.inl rfl) (zao G_law_draw (hr.mono (by decide)) rfl (zaa (pv 0) (zaa (zax zbs zaf zaf) zac))))
  (zah (zaj (zaY (zav zb3 (pv 1) zaf (zau _)) (pv 2) (zax zbQ zaf (pv 2)))))))))), ?_⟩
 refine ⟨_, rfl, b, g, l, n, 5, rfl, Bg, by omega, by decide, by decide, fun c H1 c0 c1 B1 S1 => ?_⟩
 refine ⟨_, rfl, rfl, _, rfl, ite2 (fun _ => ?_) (fun _ => ?_)⟩
 · exact ⟨_, rfl, b, g, l, _, 9, rfl, B1, by omega, by decide, by decide, fun r H2 r0 r1 B2 S2 => ⟨_, _, rfl, rfl, q _ _ (by show -1000000000000000 < r - 4; omega) (by show r - 4 < 1000000000000000; omega) (B2.mono (by omega)) (S1.trans S2)⟩⟩
 refine ⟨_, rfl, rfl, _, rfl, ite2 (fun _ => ?_) (fun _ => ?_)⟩
 · exact ⟨_, rfl, b, g, l, _, 2000, rfl, B1, by omega, by decide, by decide, fun r H2 r0 r1 B2 S2 => ⟨_, _, rfl, rfl, q _ _ (by show -1000000000000000 < r - 1000; omega) (by show r - 1000 < 1000000000000000; omega) (B2.mono (by omega)) (S1.trans S2)⟩⟩
 refine ⟨_, rfl, rfl, _, rfl, ite2 (fun _ => ?_) (fun _ => ?_)⟩
 · refine ⟨_, rfl, zq2, fun p hp => ?_⟩
   have s1 := zae hp (.lst [V.int 1, V.int (-1)])
   obtain ⟨pb, pg, _⟩ := B1.free hp
   refine ⟨_, rfl, b, g, l, _, 2, rfl, B1.same s1, by omega, by decide, by decide, fun r H2 r0 r1 B2 S2 => ?_⟩
   have hr' : r = 0 ∨ r = 1 := by omega
   obtain ⟨v, hv, v0, v1⟩ : ∃ v, atI [V.int 1, V.int (-1)] r = some (.int v) ∧ -1 ≤ v ∧ v ≤ 1 ∧ (v = 1 ∨ v = -1) := by
    rcases hr' with rfl | rfl
    · exact ⟨1, rfl, by decide, by decide, .inl rfl⟩
    · exact ⟨-1, rfl, by decide, by decide, .inr rfl⟩
   refine ⟨p, _, _, _, rfl, rfl, SqL.of (S2 p _ zab pb pg), hv, _, _, rfl, rfl, pw10 (by decide) (by decide), _, _, rfl, rfl, _, rfl, b, g, l, _, 3, rfl, B2, by omega, by decide, by decide, fun r3 H3 r30 r31 B3 S3 => ?_⟩
   refine ⟨_, _, rfl, rfl, _, _, rfl, rfl, .inl ⟨by omega, by omega⟩, q _ _ ?_ ?_ (B3.mono (by omega)) ((S1.trans (s1.sameB.trans S2)).trans S3)⟩
   all_goals
    rw [e15]
    rcases v1.2 with rfl | rfl
    all_goals (unfold T15; omega)
 refine ⟨_, rfl, _, _, rfl, rfl, pw10 (by decide) (by decide), b, g, l, _, _, rfl, B1, by omega, by decide, by decide, fun r H2 r0 r1 B2 S2 => ?_⟩
 have r1 : r < T15 := by rw [← e15]; exact r1
 refine ⟨_, rfl, rfl, _, rfl, ite2 (fun _ => ⟨_, rfl, q _ _ (by unfold T15; omega) r1 (B2.mono (by omega)) (S1.trans S2)⟩) (fun _ => ⟨_, rfl, _, _, rfl, rfl, q _ _ (by unfold T15 at *; omega) (by unfold T15 at *; omega) (B2.mono (by omega)) (S1.trans S2)⟩)⟩
theorem zgA (F : Fun K "_law_held" "_law_held" zcv f fd)  : FnOk P w K mg base CX0 1 f fd ["number"] (zia) := by
 refine F.ok zgi (fun vs H Q E h => ?_) (fun cdv A outer s H vs Q E hr h => ?_)
 · obtain ⟨i, rfl, q⟩ := h
   rfl
 obtain ⟨i, rfl, q⟩ := h
 refine ⟨_, (zah (zaj (zan (zfM rfl) rfl B.max_ zjk (zaa (zax zbQ zaf (zax zbs zaf zaf)) (zaa (zan (zfL rfl) rfl B.min_ zjj (zaa (zax zbQ (zax zbs zaf zaf) zaf) (zaa (pv 0) zac))) zac))))), ?_⟩
 exact ⟨_, _, rfl, rfl, pw10 (by decide) (by decide), _, _, rfl, rfl, _, _, rfl, rfl, pw10 (by decide) (by decide), _, _, rfl, rfl, _, rfl, _, _, rfl, _, _, rfl, q⟩
theorem zgx (F : Fun K "_law_span" "_law_span" zct f fd) (G_law_draw : Γ33 P w K mg base) (G_law_number : Γ34 P w K mg base) (G_law_held : Γ35 P w K mg base) : FnOk P w K mg base CX0 3 f fd ["bag"] (zh7) := by
 refine F.ok sc_law_span (fun vs H Q E h => ?_) (fun cdv A outer s H vs Q E hr h => ?_)
 · obtain ⟨b, g, l, n, rfl, Bg, hn, q⟩ := h
   rfl
 obtain ⟨b, g, l, n, rfl, Bg, hn, q⟩ := h
 refine ⟨_, (zad (zaw (i := 1) sc_law_span.nd rfl (Or.inl rfl) (zao G_law_draw (hr.mono (by decide)) rfl (zaa (pv 0) (zaa zaf zac))))
  (zad (zaw (i := 2) sc_law_span.nd rfl (Or.inl rfl) (zao G_law_number (hr.mono (by decide)) rfl (zaa (pv 0) zac)))
  (zad (zaI (zav zb3 (pv 1) zaf (zau _)) (zah (zaj (zaz (zaa zbd (zaa zbd zac))))) zaq)
  (zad (zaI (zav zb3 (pv 1) zaf (zau _)) (zah (zaj (zaz (zaa zbd (zaa (pv 2) zac))))) zaq)
  (zad (zaI (zav zb3 (pv 1) zaf (zau _)) (zah (zaj (zaz (zaa (pv 2) (zaa zbd zac))))) zaq)
  (zad (zaI (zav zb3 (pv 1) zaf (zau _)) (zah (zaj (zaz (zaa (pv 2) (zaa (pv 2) zac))))) zaq)
  (zad (zaI (zav zkI (pv 1) zaf (zau _)) (zah (zaj (zaz (zaa (pv 2) (zaa (zao G_law_held (hr.mono (by decide)) rfl (zaa (zax zbR (zax zbR (pv 2) zaf) (zao G_law_draw (hr.mono (by decide)) rfl (zaa (pv 0) (zaa zaf zac)))) zac)) zac))))) zaq)
  (zad (zaw (i := 3) sc_law_span.nd rfl (Or.inl rfl) (zao G_law_number (hr.mono (by decide)) rfl (zaa (pv 0) zac)))
  (zah (zaj (zaz (zaa (zan (zfL rfl) rfl B.min_ zjj (zaa (pv 2) (zaa (pv 3) zac))) (zaa (zan (zfM rfl) rfl B.max_ zjk (zaa (pv 2) (zaa (pv 3) zac))) zac))))))))))))), ?_⟩
 have fin : ∀ (lo hi : Option Int) (H2 : Hp), Bag H2 b g l (n + 8) → SameB b g H H2 → Good lo hi → ∀ t, H2 t = none → Q (.ref t) (upd H2 t (.tup [eV lo, eV hi])) := fun lo hi H2 B2 S2 G2 t ht =>
  q _ lo hi _ ⟨t, rfl, zab⟩ G2 (B2.same (zae ht _)) (S2.trans (zae ht _).sameB)
 have none_in : inT none := fun i z => by cases z
 refine ⟨_, rfl, b, g, l, n, 7, rfl, Bg, by omega, by decide, by decide, fun c H1 c0 c1 B1 S1 => ?_⟩
 refine ⟨_, rfl, b, g, l, _, rfl, B1, by omega, fun x H2 x0 x1 B2 S2 => ?_⟩
 have S3 := S1.trans S2
 have B3 : Bag H2 b g l (n + 8) := B2.mono (by omega)
 have x_in : inT (some x) := fun i z => by injection z with z; subst z; exact ⟨x0, x1⟩
 refine ⟨_, rfl, rfl, _, rfl, ite2 (fun _ => ⟨zq2, fin none none _ B3 S3 ⟨rfl, none_in, none_in⟩⟩) (fun _ => ?_)⟩
 refine ⟨_, rfl, rfl, _, rfl, ite2 (fun _ => ⟨_, rfl, zq2, fin none (some x) _ B3 S3 ⟨rfl, none_in, x_in⟩⟩) (fun _ => ?_)⟩
 refine ⟨_, rfl, rfl, _, rfl, ite2 (fun _ => ⟨_, rfl, zq2, fin (some x) none _ B3 S3 ⟨rfl, x_in, none_in⟩⟩) (fun _ => ?_)⟩
 refine ⟨_, rfl, rfl, _, rfl, ite2 (fun _ => ⟨_, rfl, _, rfl, zq2, fin (some x) (some x) _ B3 S3 ⟨decide_eq_true (Int.le_refl x), x_in, x_in⟩⟩) (fun _ => ?_)⟩
 refine ⟨_, rfl, _, _, rfl, rfl, _, rfl, ite2 (fun _ => ?_) (fun _ => ?_)⟩
 · refine ⟨_, rfl, _, rfl, _, _, rfl, rfl, _, rfl, b, g, l, _, 12, rfl, B2, by omega, by decide, by decide, fun r H4 r0 r1 B4 S4 => ?_⟩
   refine ⟨_, _, rfl, rfl, _, rfl, zq2, ?_⟩
   have hh := zjN (x + 1 + r)
   refine fin (some x) (some (zhR (x + 1 + r))) _ (B4.mono (by omega)) (S3.trans S4) ⟨decide_eq_true ?_, x_in, fun i z => ?_⟩
   · unfold T15 at *; omega
   · injection z with z; subst z; unfold T15 at *; omega
 · refine ⟨_, rfl, b, g, l, _, rfl, B2, by omega, fun y H4 y0 y1 B4 S4 => ?_⟩
   refine ⟨_, rfl, _, rfl, _, _, rfl, _, rfl, _, rfl, _, _, rfl, zq2, ?_⟩
   refine fin (some (if y < x then y else x)) (some (if y > x then y else x)) _ (B4.mono (by omega)) (S3.trans S4) ⟨decide_eq_true ?_, fun i z => ?_, fun i z => ?_⟩
   · split <;> split <;> omega
   · injection z with z; subst z; split <;> omega
   · injection z with z; subst z; split <;> omega
theorem zfA (F : Fun K "_law_field" "_law_field" zbg f fd) (G_law_draw : Γ33 P w K mg base) : FnOk P w K mg base CX0 2 f fd ["bag"] (zc5) := by
 refine F.ok sc_law_field (fun vs H Q E h => ?_) (fun cdv A outer s H vs Q E hr h => ?_)
 · obtain ⟨b, g, l, n, rfl, Bg, hn, q⟩ := h
   rfl
 obtain ⟨b, g, l, n, rfl, Bg, hn, q⟩ := h
 refine ⟨_, (zad (zaw (i := 1) sc_law_field.nd rfl (Or.inl rfl) (zao G_law_draw (hr.mono (by decide)) rfl (zaa (pv 0) (zaa zaf zac))))
  (zad (zaw (i := 2) sc_law_field.nd rfl (Or.inr rfl) zaG)
  (zad (zaI (zav zb3 (pv 1) zaf (zau _)) (zah (zaj (zcM PySem.F.plainAttrs_str PySem.F.slot_str_join PySem.F.type_str_join zdc zaG (zaa (zdq (N' := ["k", "bag", "some"]) (js := [none, some 0, some 2]) rfl (zb5 (N := ["bag", "choice", "some"]) (outer := zag zbg) (by decide +kernel)) (zcj rfl B.range_ (zaa (zax zbR zaf (zao G_law_draw (hr.mono (by decide)) rfl (zaa (pv 0) (zaa zaf zac)))) zac)) (fun _ _ _ _ _ => (zai (i := 0) (show List.Nodup (["k", "bag", "some"] : List Str) by decide +kernel) rfl (Or.inl rfl))) (fun _ _ _ _ _ => zaJ) (fun _ _ _ _ _ => (zaA ziX (pv 2) (zao G_law_draw (hr.mono (by decide)) rfl (zaa (pv 1) (zaa zaf zac))) (fun _ _ => rfl)))) zac)))) zaq)
  (zah (zaj (zcM PySem.F.plainAttrs_str PySem.F.slot_str_join PySem.F.type_str_join zdc zaG (zaa (zdq (N' := ["k", "bag", "some"]) (js := [none, some 0, some 2]) rfl (zb5 (N := ["bag", "choice", "some"]) (outer := zag zbg) (by decide +kernel)) (zcj rfl B.range_ (zaa (zax zbR zaf (zao G_law_draw (hr.mono (by decide)) rfl (zaa (pv 0) (zaa zaf zac)))) zac)) (fun _ _ _ _ _ => (zai (i := 0) (show List.Nodup (["k", "bag", "some"] : List Str) by decide +kernel) rfl (Or.inl rfl))) (fun _ _ _ _ _ => zaJ) (fun _ _ _ _ _ => (zaA ziX (pv 2) (zax zeo (zao G_law_draw (hr.mono (by decide)) rfl (zaa (pv 1) (zaa zaf zac))) zaf) (fun _ _ => rfl)))) zac))))))), ?_⟩
 refine ⟨_, rfl, b, g, l, n, 3, rfl, Bg, by omega, by decide, by decide, fun c0 H1 c1 c2 B1 S1 => ?_⟩
 refine ⟨_, rfl, rfl, _, rfl, ite2 (fun _ => ?_) (fun _ => ?_)⟩
 · refine ⟨rfl, _, rfl, b, g, l, _, 8, rfl, B1, by omega, by decide, by decide, fun r H2 r0 r1 B2 S2 => ?_⟩
   refine ⟨_, _, rfl, rfl, _, rfl, by omega, by omega, fun p hp => ?_⟩
   obtain ⟨pb, pg, pl⟩ := B2.free hp
   have s3 := zae hp (.lst [])
   have S12 := S1.trans S2
   refine zcZ (n := (1 + r).toNat) (fun i σ' ys H' => (∃ v, σ' = [v, some (.ref b), some (.str "abcdefghijklmnopqrstuvwxyz")]) ∧ SameB b g H H' ∧ Bag H' b g l (n + 2 + i) ∧ H' p = some (.lst ys) ∧ ∃ cs : List Nat, ys = (cs.map fun c => (⟨#[c]⟩ : Str)).map V.str ∧ cs.length = i ∧ ∀ c ∈ cs, zbz c = true) ?_ ?_ ?_ ?_
   · exact ⟨⟨none, rfl⟩, S12.trans s3.sameB, (B2.same s3).mono (by omega), zab, [], rfl, rfl, fun c hc => by simp at hc⟩
   · rintro i σ' ys H' hi ⟨_, _, _, h1, cs, rfl, h2, _⟩
     exact ⟨h1, by rw [List.length_map, List.length_map, h2]; exact zap (by omega)⟩
   · rintro i σ' ys H4 N hi ⟨⟨v, rfl⟩, S4, B4, h1, cs, rfl, h2, h3⟩ hN
     refine ⟨_, rfl, _, rfl, b, g, l, _, 26, rfl, B4, by omega, by decide, by decide, fun k H5 k0 k1 B5 S5 => ?_⟩
     obtain ⟨c, hc, ok⟩ := zl2 k0 k1
     have h5 := S5 _ _ h1 pb pg
     refine ⟨_, _, c, rfl, rfl, (by show 26 ≤ sizeLine; decide), hc, h5, hN _ _ _ ⟨⟨_, rfl⟩, ?_, ?_, zab, cs ++ [c], ?_, ?_, ?_⟩⟩
     · have np : H p = none := S12.none hp pb pg
       exact (S4.trans S5).off np
     · exact (B5.off pb pg pl).mono (by omega)
     · rw [List.map_append, List.map_append]; rfl
     · rw [List.length_append, h2]; rfl
     · intro c' hc'
       rcases List.mem_append.mp hc' with z | z
       · exact h3 c' z
       · rw [List.mem_singleton.mp z]; exact ok
   · rintro σ' ys H4 ⟨_, S4, B4, h1, cs, rfl, h2, h3⟩
     refine ⟨_, _, _, rfl, rfl, SqL.of h1, ziU cs (by omega), q _ _ (zes (by omega) (by omega) h3) (B4.mono (by omega)) S4⟩
 · refine ⟨rfl, _, rfl, b, g, l, _, 4, rfl, B1, by omega, by decide, by decide, fun r H2 r0 r1 B2 S2 => ?_⟩
   refine ⟨_, _, rfl, rfl, _, rfl, by omega, by omega, fun p hp => ?_⟩
   obtain ⟨pb, pg, pl⟩ := B2.free hp
   have s3 := zae hp (.lst [])
   have S12 := S1.trans S2
   refine zcZ (n := (1 + r).toNat) (fun i σ' ys H' => (∃ v, σ' = [v, some (.ref b), some (.str "abcdefghijklmnopqrstuvwxyz")]) ∧ SameB b g H H' ∧ Bag H' b g l (n + 2 + i) ∧ H' p = some (.lst ys) ∧ ∃ cs : List Nat, ys = (cs.map fun c => (⟨#[c]⟩ : Str)).map V.str ∧ cs.length = i ∧ ∀ c ∈ cs, zbz c = true) ?_ ?_ ?_ ?_
   · exact ⟨⟨none, rfl⟩, S12.trans s3.sameB, (B2.same s3).mono (by omega), zab, [], rfl, rfl, fun c hc => by simp at hc⟩
   · rintro i σ' ys H' hi ⟨_, _, _, h1, cs, rfl, h2, _⟩
     exact ⟨h1, by rw [List.length_map, List.length_map, h2]; exact zap (by omega)⟩
   · rintro i σ' ys H4 N hi ⟨⟨v, rfl⟩, S4, B4, h1, cs, rfl, h2, h3⟩ hN
     refine ⟨_, rfl, _, rfl, b, g, l, _, 2, rfl, B4, by omega, by decide, by decide, fun k H5 k0 k1 B5 S5 => ?_⟩
     obtain ⟨c, hc, ok⟩ := zl2 (r := k * 25) (by omega) (by omega)
     refine ⟨_, _, rfl, rfl, .inl ⟨by omega, by omega⟩, ?_⟩
     have h5 := S5 _ _ h1 pb pg
     refine ⟨_, _, c, rfl, rfl, (by show 26 ≤ sizeLine; decide), hc, h5, hN _ _ _ ⟨⟨_, rfl⟩, ?_, ?_, zab, cs ++ [c], ?_, ?_, ?_⟩⟩
     · have np : H p = none := S12.none hp pb pg
       exact (S4.trans S5).off np
     · exact (B5.off pb pg pl).mono (by omega)
     · rw [List.map_append, List.map_append]; rfl
     · rw [List.length_append, h2]; rfl
     · intro c' hc'
       rcases List.mem_append.mp hc' with z | z
       · exact h3 c' z
       · rw [List.mem_singleton.mp z]; exact ok
   · rintro σ' ys H4 ⟨_, S4, B4, h1, cs, rfl, h2, h3⟩
     refine ⟨_, _, _, rfl, rfl, SqL.of h1, ziU cs (by omega), q _ _ (zes (by omega) (by omega) h3) (B4.mono (by omega)) S4⟩
theorem ze1 (F : Fun K "_law_fields" "_law_fields" zbo f fd) (G_law_field : Γ37 P w K mg base) (G_law_draw : Γ33 P w K mg base) : FnOk P w K mg base CX0 3 f fd ["bag", "most"] (zcK) := by
 refine F.ok zeP (fun vs H Q E h => ?_) (fun cdv A outer s H vs Q E hr h => ?_)
 · obtain ⟨b, g, l, n, most, rfl, Bg, hn, m0, m9, q⟩ := h
   rfl
 obtain ⟨b, g, l, n, most, rfl, Bg, hn, m0, m9, q⟩ := h
 refine ⟨_, (zah (zaj (zhD rfl (zdq (N' := ["k", "bag"]) (js := [none, some 0]) rfl (zb5 (N := ["bag", "most"]) (outer := zag zbo) (by decide +kernel)) (zcj rfl B.range_ (zaa (zao G_law_draw (hr.mono (by decide)) rfl (zaa (pv 0) (zaa (zax zbR (pv 1) zaf) zac))) zac)) (fun _ _ _ _ _ => (zai (i := 0) (show List.Nodup (["k", "bag"] : List Str) by decide +kernel) rfl (Or.inl rfl))) (fun _ _ _ _ _ => zaJ) (fun _ _ _ _ _ => (zao G_law_field (hr.mono (by decide)) rfl (zaa (pv 1) zac)))) rfl B.sorted_ rfl B.set_))), ?_⟩
 have big : most + 1 < 2 ^ 500 := by have : (10 : Int) < 2 ^ 500 := by decide
                                     omega
 refine ⟨_, rfl, _, rfl, _, _, rfl, rfl, b, g, l, n, _, rfl, Bg, by omega, by omega, big, fun r H1 r0 r1 B1 S1 => ?_⟩
 refine ⟨_, rfl, by omega, by omega, fun p hp => ?_⟩
 obtain ⟨pb, pg, pl⟩ := B1.free hp
 have np : H p = none := S1.none hp pb pg
 have s3 := zae hp (.lst [])
 refine zcZ (n := r.toNat) (fun i σ' ys H' => (∃ v, σ' = [v, some (.ref b)]) ∧ SameB b g H H' ∧ Bag H' b g l (n + 1 + 12 * i) ∧ H' p = some (.lst ys) ∧ ∃ ts : List Str, ys = ts.map V.str ∧ ts.length = i ∧ ∀ t ∈ ts, FieldOk t) ?_ ?_ ?_ ?_
 · exact ⟨⟨none, rfl⟩, S1.trans s3.sameB, (B1.same s3).mono (by omega), zab, [], rfl, rfl, fun c hc => by simp at hc⟩
 · rintro i σ' ys H' hi ⟨_, _, _, h1, ts, rfl, h2, _⟩
   exact ⟨h1, by rw [List.length_map, h2]; exact zap (by omega)⟩
 · rintro i σ' ys H4 N hi ⟨⟨v, rfl⟩, S4, B4, h1, ts, rfl, h2, h3⟩ hN
   refine ⟨_, rfl, b, g, l, _, rfl, B4, by omega, fun x H5 ok B5 S5 => ?_⟩
   have h5 := S5 _ _ h1 pb pg
   refine ⟨h5, hN _ _ _ ⟨⟨_, rfl⟩, (S4.trans S5).off np, (B5.off pb pg pl).mono (by omega), zab, ts ++ [x], ?_, ?_, ?_⟩⟩
   · rw [List.map_append]; rfl
   · rw [List.length_append, h2]; rfl
   · intro c' hc'
     rcases List.mem_append.mp hc' with z | z
     · exact h3 c' z
     · rw [List.mem_singleton.mp z]; exact ok
 · rintro σ' ys H4 ⟨_, S4, B4, h1, ts, rfl, h2, h3⟩
   refine ⟨p, ts, rfl, SqL.of h1, by omega, fun z ms nd mem le so hz => ?_⟩
   obtain ⟨zb, zg, zl⟩ := B4.free hz
   have s5 := zae hz (.lst (ms.map V.str))
   exact q z ms _ (S4.none hz zb zg) zab (zic so nd) (fun f hf => h3 f ((mem f).mp hf)) (by omega) ((B4.same s5).mono (by omega)) (S4.trans s5.sameB)
theorem zgy (F : Fun K "_law_same" "_law_same" zbV f fd)  (M_self : mg "_law_same" = some (.ref f)) : FnOk P w K mg base CX0 11 f fd ["found", "due"] (zg6 9 zeG) := by
 have b_self := F.binds (ps := ["found", "due"]) fun _ _ _ _ _ _ us hl => match us, hl with | [_, _], _ => rfl
 refine zko (L := 0) (D := 9) (zj3 F zdP b_self M_self 0 (zeG) fun n sp0 hsp G_law_same => ?_)
 refine F.ok zdP (fun vs H Q E h => ?_) (fun cdv A outer s H vs Q E hr h => ?_)
 · obtain ⟨v, v', d, rfl, n9, h1, h2, hn, q⟩ := h
   rfl
 obtain ⟨v, v', d, rfl, n9, h1, h2, hn, q⟩ := h
 refine ⟨_, (zad (zaI (zbH (zb2 (pv 1))) (zah (zaj (zbO (zb2 (pv 0))))) zaq)
  (zad (zaI (zaQ (zan zdn rfl B.isinstance_ zal (zaa (pv 1) (zaa (zaz (zaa (zaE (v := .ty "list") rfl B.list_ zfb rfl) (zaa (zaE (v := .ty "tuple") rfl B.tuple_ zbc rfl) zac))) zac)))) (zad (zaI (PW.pt (zdR (zaS (zaQ (zan zdn rfl B.isinstance_ zal (zaa (pv 0) (zaa (zaz (zaa (zaE (v := .ty "list") rfl B.list_ zfb rfl) (zaa (zaE (v := .ty "tuple") rfl B.tuple_ zbc rfl) zac))) zac))))) (zcE (zav zeX (zan (zas (n := "")) rfl B.isinstance_ zal (zaa (pv 0) (zaa (zaE (v := .ty "list") rfl B.list_ zfb rfl) zac))) (zan (zas (n := "")) rfl B.isinstance_ zal (zaa (pv 1) (zaa (zaE (v := .ty "list") rfl B.list_ zfb rfl) zac))) (zau _))))) (zah (zaj zcN)) zaq)
  (zah (zaj (zbP (zbr zb3 (zan zaO rfl B.len_ zc2 (zaa (pv 0) zac)) (zan zaO rfl B.len_ zc2 (zaa (pv 1) zac)) (zau _)) (zaT (zan (zcD rfl) rfl B.all_ zew (zaa (zdq (N' := ["k", "found", "due"]) (js := [none, some 0, some 1]) rfl (zb5 (N := ["found", "due"]) (outer := zag zbV) (by decide +kernel)) (zcj rfl B.range_ (zaa (zan zaO rfl B.len_ zc2 (zaa (pv 1) zac)) zac)) (fun _ _ _ _ _ => (zai (i := 0) (show List.Nodup (["k", "found", "due"] : List Str) by decide +kernel) rfl (Or.inl rfl))) (fun _ _ _ _ _ => zaJ) (fun _ _ _ _ _ => (zao G_law_same (hr.mono (by omega)) rfl (zaa (zaA (ziW K rfl) (pv 1) (pv 0) (fun _ _ => rfl)) (zaa (zaA (ziW K rfl) (pv 2) (pv 0) (fun _ _ => rfl)) zac))))) zac))))))) zaq)
  (zad (zaI (PW.pt (zdR (zav zeX (zan (zas (n := "")) rfl B.isinstance_ zal (zaa (pv 0) (zaa (zaE (v := .ty "bool") rfl B.bool_ zgY rfl) zac))) (zan (zas (n := "")) rfl B.isinstance_ zal (zaa (pv 1) (zaa (zaE (v := .ty "bool") rfl B.bool_ zgY rfl) zac))) (zau _)) (zcE (zav zeX (zan (zas (n := "")) rfl B.isinstance_ zal (zaa (pv 0) (zaa (zaE (v := .ty "int") rfl B.int_ zho rfl) zac))) (zan (zas (n := "")) rfl B.isinstance_ zal (zaa (pv 1) (zaa (zaE (v := .ty "int") rfl B.int_ zho rfl) zac))) (zau _))))) (zah (zaj zcN)) zaq)
  (zah (zaj (zbP (zbr zb3 (zan (zas (n := "")) rfl B.isinstance_ zal (zaa (pv 0) (zaa (zaE (v := .ty "str") rfl B.str_ zea rfl) zac))) (zan (zas (n := "")) rfl B.isinstance_ zal (zaa (pv 1) (zaa (zaE (v := .ty "str") rfl B.str_ zea rfl) zac))) (zau _)) (zaT (zbr (zlz (zcR hr)) (pv 0) (pv 1) (zau _))))))))), ?_⟩
 cases d with
 | non =>
  rw [RepY] at h1 h2
  subst h1 h2
  exact ⟨_, rfl, _, rfl, iteT ⟨_, rfl, q H (Same.refl _)⟩⟩
 | bl x =>
  have r1 := h1
  have r2 := h2
  rw [RepY] at h1 h2
  subst h1 h2
  refine ⟨_, rfl, _, rfl, iteF ⟨_, rfl, zq2, fun t1 ht1 => ?_⟩⟩
  have s1 := zae ht1 (.tup [V.ty "list", V.ty "tuple"])
  have c1 : (upd H t1 (.tup [V.ty "list", V.ty "tuple"])) t1 = some (.tup [V.ty "list", V.ty "tuple"]) := zab
  generalize upd H t1 (.tup [V.ty "list", V.ty "tuple"]) = H1 at *
  refine ⟨_, "bool", t1, _, false, rfl, .bl x, c1, rfl, rfl, _, rfl, iteF ?_⟩
  refine ⟨_, rfl, _, "bool", "bool", true, rfl, .bl x, rfl, _, rfl, _, "bool", "bool", true, rfl, .bl x, rfl, rfl, _, rfl, iteF ?_⟩
  refine ⟨_, rfl, _, "bool", "int", true, rfl, .bl x, rfl, _, rfl, _, "bool", "int", true, rfl, .bl x, rfl, rfl, _, rfl, iteF ?_⟩
  refine ⟨_, rfl, _, "bool", "str", false, rfl, .bl x, rfl, _, rfl, _, "bool", "str", false, rfl, .bl x, rfl, rfl, _, rfl, iteT ?_⟩
  exact ⟨_, rfl, _, rfl, _, RepY.same s1 _ r1, RepY.same s1 _ r2, by omega, q H1 s1⟩
 | int x =>
  have r1 := h1
  have r2 := h2
  rw [RepY] at h1 h2
  subst h1 h2
  refine ⟨_, rfl, _, rfl, iteF ⟨_, rfl, zq2, fun t1 ht1 => ?_⟩⟩
  have s1 := zae ht1 (.tup [V.ty "list", V.ty "tuple"])
  have c1 : (upd H t1 (.tup [V.ty "list", V.ty "tuple"])) t1 = some (.tup [V.ty "list", V.ty "tuple"]) := zab
  generalize upd H t1 (.tup [V.ty "list", V.ty "tuple"]) = H1 at *
  refine ⟨_, "int", t1, _, false, rfl, .int x, c1, rfl, rfl, _, rfl, iteF ?_⟩
  refine ⟨_, rfl, _, "int", "bool", false, rfl, .int x, rfl, _, rfl, _, "int", "bool", false, rfl, .int x, rfl, rfl, _, rfl, iteF ?_⟩
  refine ⟨_, rfl, _, "int", "int", true, rfl, .int x, rfl, _, rfl, _, "int", "int", true, rfl, .int x, rfl, rfl, _, rfl, iteF ?_⟩
  refine ⟨_, rfl, _, "int", "str", false, rfl, .int x, rfl, _, rfl, _, "int", "str", false, rfl, .int x, rfl, rfl, _, rfl, iteT ?_⟩
  exact ⟨_, rfl, _, rfl, _, RepY.same s1 _ r1, RepY.same s1 _ r2, by omega, q H1 s1⟩
 | str x =>
  have r1 := h1
  have r2 := h2
  rw [RepY] at h1 h2
  obtain ⟨rfl, hx⟩ := h1
  obtain ⟨rfl, _⟩ := h2
  refine ⟨_, rfl, _, rfl, iteF ⟨_, rfl, zq2, fun t1 ht1 => ?_⟩⟩
  have s1 := zae ht1 (.tup [V.ty "list", V.ty "tuple"])
  have c1 : (upd H t1 (.tup [V.ty "list", V.ty "tuple"])) t1 = some (.tup [V.ty "list", V.ty "tuple"]) := zab
  generalize upd H t1 (.tup [V.ty "list", V.ty "tuple"]) = H1 at *
  refine ⟨_, "str", t1, _, false, rfl, .str x, c1, rfl, rfl, _, rfl, iteF ?_⟩
  refine ⟨_, rfl, _, "str", "bool", false, rfl, .str x, rfl, _, rfl, _, "str", "bool", false, rfl, .str x, rfl, rfl, _, rfl, iteF ?_⟩
  refine ⟨_, rfl, _, "str", "int", false, rfl, .str x, rfl, _, rfl, _, "str", "int", false, rfl, .str x, rfl, rfl, _, rfl, iteF ?_⟩
  refine ⟨_, rfl, _, "str", "str", true, rfl, .str x, rfl, _, rfl, _, "str", "str", true, rfl, .str x, rfl, rfl, _, rfl, iteT ?_⟩
  exact ⟨_, rfl, _, rfl, _, RepY.same s1 _ r1, RepY.same s1 _ r2, by omega, q H1 s1⟩
 | dic =>
  have r1 := h1
  have r2 := h2
  rw [RepY] at h1 h2
  obtain ⟨a, rfl, ha⟩ := h1
  obtain ⟨a', rfl, ha'⟩ := h2
  refine ⟨_, rfl, _, rfl, iteF ⟨_, rfl, zq2, fun t1 ht1 => ?_⟩⟩
  have s1 := zae ht1 (.tup [V.ty "list", V.ty "tuple"])
  have c1 : (upd H t1 (.tup [V.ty "list", V.ty "tuple"])) t1 = some (.tup [V.ty "list", V.ty "tuple"]) := zab
  generalize upd H t1 (.tup [V.ty "list", V.ty "tuple"]) = H1 at *
  refine ⟨_, "dict", t1, _, false, rfl, .dK (s1 _ _ ha'), c1, rfl, rfl, _, rfl, iteF ?_⟩
  refine ⟨_, rfl, _, "dict", "bool", false, rfl, .dK (s1 _ _ ha), rfl, _, rfl, _, "dict", "bool", false, rfl, .dK (s1 _ _ ha'), rfl, rfl, _, rfl, iteF ?_⟩
  refine ⟨_, rfl, _, "dict", "int", false, rfl, .dK (s1 _ _ ha), rfl, _, rfl, _, "dict", "int", false, rfl, .dK (s1 _ _ ha'), rfl, rfl, _, rfl, iteF ?_⟩
  refine ⟨_, rfl, _, "dict", "str", false, rfl, .dK (s1 _ _ ha), rfl, _, rfl, _, "dict", "str", false, rfl, .dK (s1 _ _ ha'), rfl, rfl, _, rfl, iteT ?_⟩
  exact ⟨_, rfl, _, rfl, _, RepY.same s1 _ r1, RepY.same s1 _ r2, by omega, q H1 s1⟩
 | da d =>
  have r1 := h1
  have r2 := h2
  rw [RepY] at h1 h2
  obtain ⟨a, u, rfl, ha, hu⟩ := h1
  obtain ⟨a', u', rfl, ha', hu'⟩ := h2
  refine ⟨_, rfl, _, rfl, iteF ⟨_, rfl, zq2, fun t1 ht1 => ?_⟩⟩
  have s1 := zae ht1 (.tup [V.ty "list", V.ty "tuple"])
  have c1 : (upd H t1 (.tup [V.ty "list", V.ty "tuple"])) t1 = some (.tup [V.ty "list", V.ty "tuple"]) := zab
  generalize upd H t1 (.tup [V.ty "list", V.ty "tuple"]) = H1 at *
  refine ⟨_, "dict", t1, _, false, rfl, .dK (s1 _ _ ha'), c1, rfl, rfl, _, rfl, iteF ?_⟩
  refine ⟨_, rfl, _, "dict", "bool", false, rfl, .dK (s1 _ _ ha), rfl, _, rfl, _, "dict", "bool", false, rfl, .dK (s1 _ _ ha'), rfl, rfl, _, rfl, iteF ?_⟩
  refine ⟨_, rfl, _, "dict", "int", false, rfl, .dK (s1 _ _ ha), rfl, _, rfl, _, "dict", "int", false, rfl, .dK (s1 _ _ ha'), rfl, rfl, _, rfl, iteF ?_⟩
  refine ⟨_, rfl, _, "dict", "str", false, rfl, .dK (s1 _ _ ha), rfl, _, rfl, _, "dict", "str", false, rfl, .dK (s1 _ _ ha'), rfl, rfl, _, rfl, iteT ?_⟩
  exact ⟨_, rfl, _, rfl, _, RepY.same s1 _ r1, RepY.same s1 _ r2, by omega, q H1 s1⟩
 | lst ds =>
  rw [RepY] at h1 h2
  obtain ⟨a, xs, rfl, ha, h9, hx⟩ := h1
  obtain ⟨a', xs', rfl, ha', _, hx'⟩ := h2
  obtain ⟨m, rfl⟩ : ∃ m, n = m + 1 := ⟨n - 1, by rw [zaX] at hn; omega⟩
  have e0 := hsp m rfl
  subst e0
  rw [zaX] at hn
  have hl := hx.length
  have hl' := hx'.length
  refine ⟨_, rfl, _, rfl, iteF ⟨_, rfl, zq2, fun t1 ht1 => ?_⟩⟩
  have s1 := zae ht1 (.tup [V.ty "list", V.ty "tuple"])
  have c1 : (upd H t1 (.tup [V.ty "list", V.ty "tuple"])) t1 = some (.tup [V.ty "list", V.ty "tuple"]) := zab
  generalize upd H t1 (.tup [V.ty "list", V.ty "tuple"]) = H1 at *
  refine ⟨_, "list", t1, _, true, rfl, .lst (s1 _ _ ha'), c1, rfl, rfl, _, rfl, iteT ⟨_, rfl, zq2, fun t2 ht2 => ?_⟩⟩
  have s2 := zae ht2 (.tup [V.ty "list", V.ty "tuple"])
  have c2 : (upd H1 t2 (.tup [V.ty "list", V.ty "tuple"])) t2 = some (.tup [V.ty "list", V.ty "tuple"]) := zab
  generalize upd H1 t2 (.tup [V.ty "list", V.ty "tuple"]) = H2 at *
  have S := s1.trans s2
  have ka := S _ _ ha
  have ka' := S _ _ ha'
  refine ⟨_, "list", t2, _, true, rfl, .lst ka, c2, rfl, rfl, _, rfl, iteF ⟨_, rfl, _, "list", "list", true, rfl, .lst ka, rfl, _, rfl, _, "list", "list", true, rfl, .lst ka', rfl, rfl, _, rfl, iteF ?_⟩⟩
  refine ⟨_, rfl, a, _, rfl, .inl (SqL.of ka), _, rfl, a', _, rfl, .inl (SqL.of ka'), rfl, _, rfl, ?_⟩
  rw [decide_eq_true (show V.int ((xs.length : Nat) : Int) = V.int ((xs'.length : Nat) : Int) by rw [hl, hl'])]
  refine iteT ⟨_, rfl, a', _, rfl, .inl (SqL.of ka'), _, rfl, by omega, by omega, fun p hp => ?_⟩
  have s3 := zae hp (.lst [])
  refine zcZ (n := ((xs'.length : Nat) : Int).toNat) (fun i σ' ys H' => (∃ v, σ' = [v, some (.ref a), some (.ref a')]) ∧ Same H2 H' ∧ H' p = some (.lst ys) ∧ ys = (List.replicate i true).map V.bl) ⟨⟨none, rfl⟩, s3, zab, rfl⟩ ?_ ?_ ?_
  · rintro i σ' ys H' hi ⟨_, _, h1, h2⟩
    exact ⟨h1, by rw [h2, List.length_map, List.length_replicate]; exact zap (by omega)⟩
  · rintro i σ' ys H4 N hi ⟨⟨v, rfl⟩, s4, h1, h2⟩ hN
    have hi2 : i < xs'.length := by omega
    obtain ⟨x, ex⟩ : ∃ x, xs[i]? = some x := ⟨xs[i]'(by omega), by simp [hl, hl', hi2]⟩
    obtain ⟨x', ex'⟩ : ∃ x, xs'[i]? = some x := ⟨xs'[i], by simp [hi2]⟩
    obtain ⟨d, ed, rd⟩ := hx.get ex
    obtain ⟨d', ed', rd'⟩ := hx'.get ex'
    rw [ed] at ed'
    injection ed' with ed'
    subst ed'
    have e0 : (0 : Int) + (i : Int) = (i : Int) := by omega
    have at1 : atI xs (0 + (i : Int)) = some x := by rw [e0]; exact zcb ex
    have at2 : atI xs' (0 + (i : Int)) = some x' := by rw [e0]; exact zcb ex'
    have S4 := S.trans s4
    refine ⟨_, rfl, _, rfl, a, xs, _, x, rfl, rfl, .inl (SqL.of (S4 _ _ ha)), at1, _, rfl, _, rfl, a', xs', _, x', rfl, rfl, .inl (SqL.of (S4 _ _ ha')), at2, x, x', d, rfl, by omega, RepY.same S4 d rd, RepY.same S4 d rd', by have := zdf (List.mem_of_getElem? ed); omega, fun H5 s5 => ⟨s5 _ _ h1, hN _ _ _ ⟨⟨_, rfl⟩, ?_, zab, ?_⟩⟩⟩
    · intro b o q
      have : b ≠ p := fun z => by rw [z, hp] at q; cases q
      rw [zak this]
      exact s5 _ _ (s4 b o q)
    · rw [h2, List.replicate_succ', List.map_append]; rfl
  · rintro σ' ys H4 ⟨_, s4, h1, h2⟩
    refine ⟨p, _, rfl, SqL.of (by rw [h1, h2]), ?_⟩
    have e : (List.replicate ((xs'.length : Nat) : Int).toNat true).all id = true := by simp
    rw [e]
    exact q H4 (S.trans s4)
 | tup ds =>
  rw [RepY] at h1 h2
  obtain ⟨a, xs, rfl, ha, h9, hx⟩ := h1
  obtain ⟨a', xs', rfl, ha', _, hx'⟩ := h2
  obtain ⟨m, rfl⟩ : ∃ m, n = m + 1 := ⟨n - 1, by rw [zaX] at hn; omega⟩
  have e0 := hsp m rfl
  subst e0
  rw [zaX] at hn
  have hl := hx.length
  have hl' := hx'.length
  refine ⟨_, rfl, _, rfl, iteF ⟨_, rfl, zq2, fun t1 ht1 => ?_⟩⟩
  have s1 := zae ht1 (.tup [V.ty "list", V.ty "tuple"])
  have c1 : (upd H t1 (.tup [V.ty "list", V.ty "tuple"])) t1 = some (.tup [V.ty "list", V.ty "tuple"]) := zab
  generalize upd H t1 (.tup [V.ty "list", V.ty "tuple"]) = H1 at *
  refine ⟨_, "tuple", t1, _, true, rfl, .tup (s1 _ _ ha'), c1, rfl, rfl, _, rfl, iteT ⟨_, rfl, zq2, fun t2 ht2 => ?_⟩⟩
  have s2 := zae ht2 (.tup [V.ty "list", V.ty "tuple"])
  have c2 : (upd H1 t2 (.tup [V.ty "list", V.ty "tuple"])) t2 = some (.tup [V.ty "list", V.ty "tuple"]) := zab
  generalize upd H1 t2 (.tup [V.ty "list", V.ty "tuple"]) = H2 at *
  have S := s1.trans s2
  have ka := S _ _ ha
  have ka' := S _ _ ha'
  refine ⟨_, "tuple", t2, _, true, rfl, .tup ka, c2, rfl, rfl, _, rfl, iteF ⟨_, rfl, _, "tuple", "list", false, rfl, .tup ka, rfl, _, rfl, _, "tuple", "list", false, rfl, .tup ka', rfl, rfl, _, rfl, iteF ?_⟩⟩
  refine ⟨_, rfl, a, _, rfl, .inr (SqT.of ka), _, rfl, a', _, rfl, .inr (SqT.of ka'), rfl, _, rfl, ?_⟩
  rw [decide_eq_true (show V.int ((xs.length : Nat) : Int) = V.int ((xs'.length : Nat) : Int) by rw [hl, hl'])]
  refine iteT ⟨_, rfl, a', _, rfl, .inr (SqT.of ka'), _, rfl, by omega, by omega, fun p hp => ?_⟩
  have s3 := zae hp (.lst [])
  refine zcZ (n := ((xs'.length : Nat) : Int).toNat) (fun i σ' ys H' => (∃ v, σ' = [v, some (.ref a), some (.ref a')]) ∧ Same H2 H' ∧ H' p = some (.lst ys) ∧ ys = (List.replicate i true).map V.bl) ⟨⟨none, rfl⟩, s3, zab, rfl⟩ ?_ ?_ ?_
  · rintro i σ' ys H' hi ⟨_, _, h1, h2⟩
    exact ⟨h1, by rw [h2, List.length_map, List.length_replicate]; exact zap (by omega)⟩
  · rintro i σ' ys H4 N hi ⟨⟨v, rfl⟩, s4, h1, h2⟩ hN
    have hi2 : i < xs'.length := by omega
    obtain ⟨x, ex⟩ : ∃ x, xs[i]? = some x := ⟨xs[i]'(by omega), by simp [hl, hl', hi2]⟩
    obtain ⟨x', ex'⟩ : ∃ x, xs'[i]? = some x := ⟨xs'[i], by simp [hi2]⟩
    obtain ⟨d, ed, rd⟩ := hx.get ex
    obtain ⟨d', ed', rd'⟩ := hx'.get ex'
    rw [ed] at ed'
    injection ed' with ed'
    subst ed'
    have e0 : (0 : Int) + (i : Int) = (i : Int) := by omega
    have at1 : atI xs (0 + (i : Int)) = some x := by rw [e0]; exact zcb ex
    have at2 : atI xs' (0 + (i : Int)) = some x' := by rw [e0]; exact zcb ex'
    have S4 := S.trans s4
    refine ⟨_, rfl, _, rfl, a, xs, _, x, rfl, rfl, .inr (SqT.of (S4 _ _ ha)), at1, _, rfl, _, rfl, a', xs', _, x', rfl, rfl, .inr (SqT.of (S4 _ _ ha')), at2, x, x', d, rfl, by omega, RepY.same S4 d rd, RepY.same S4 d rd', by have := zdf (List.mem_of_getElem? ed); omega, fun H5 s5 => ⟨s5 _ _ h1, hN _ _ _ ⟨⟨_, rfl⟩, ?_, zab, ?_⟩⟩⟩
    · intro b o q
      have : b ≠ p := fun z => by rw [z, hp] at q; cases q
      rw [zak this]
      exact s5 _ _ (s4 b o q)
    · rw [h2, List.replicate_succ', List.map_append]; rfl
  · rintro σ' ys H4 ⟨_, s4, h1, h2⟩
    refine ⟨p, _, rfl, SqL.of (by rw [h1, h2]), ?_⟩
    have e : (List.replicate ((xs'.length : Nat) : Int).toNat true).all id = true := by simp
    rw [e]
    exact q H4 (S.trans s4)
theorem zgz (F : Fun K "_law_made" "_law_made" zcu f fd) (G_law_fields : Γ38 P w K mg base) (G_law_span : Γ36 P w K mg base) (G_law_number : Γ34 P w K mg base) : FnOk P w K mg base CX0 4 f fd ["bag", "size", "most"] (zf7) := by
 refine F.ok sc_law_made (fun vs H Q E h => ?_) (fun cdv A outer s H vs Q E hr h => ?_)
 · obtain ⟨b, g, l, n, size, most, rfl, Bg, hn, m0, m9, hs, q⟩ := h
   rfl
 obtain ⟨b, g, l, n, size, most, rfl, Bg, hn, m0, m9, hs, q⟩ := h
 refine ⟨_, (zad (zaw (i := 3) sc_law_made.nd rfl (Or.inl rfl) (zcf zac))
  (zad (zen PassesOwn.never rfl (zc8 (zao G_law_fields (hr.mono (by decide)) rfl (zaa (pv 0) (zaa (pv 2) zac)))) (zai (i := 4) sc_law_made.nd rfl (Or.inl rfl)) (zad (zaw (i := 5) sc_law_made.nd rfl (Or.inl rfl) (zao G_law_span (hr.mono (by decide)) rfl (zaa (pv 0) zac)))
  (zah (zaM (zcM PySem.F.plainAttrs_list PySem.F.slot_list_append PySem.F.type_list_append zcl (pv 3) (zaa (zaY (zav zb3 (pv 1) zaf (zau _)) (zaz (zaa (pv 4) (zaa (zaA zaW (pv 5) zaf (fun _ _ => rfl)) (zaa (zaA zaW (pv 5) zaf (fun _ _ => rfl)) zac)))) (zaz (zaa (pv 4) (zaa (zao G_law_number (hr.mono (by decide)) rfl (zaa (pv 0) zac)) zac)))) zac))))))
  (zah (zaj (zbI zbB rfl B.tuple_ zbc (zaa (pv 3) zac)))))), ?_⟩
 refine ⟨sz0, fun r hr' => ?_⟩
 obtain ⟨rb, rg, rl⟩ := Bg.free hr'
 have s0 := zae hr' (.lst [])
 have Bg0 := Bg.same s0
 refine ⟨_, rfl, _, rfl, b, g, l, _, most, rfl, Bg0, by omega, m0, m9, fun fl fs H1 hfl efl asc fok flen B1 S1 => ?_⟩
 obtain ⟨fb, fg, fll⟩ := Bg0.free hfl
 have fr : fl ≠ r := fun z => by rw [z, zab] at hfl; cases hfl
 have S01 := s0.sameB.trans S1
 have er1 : H1 r = some (.lst []) := S1 _ _ zab rb rg
 have np : H r = none := hr'
 rcases hs with rfl | rfl
 · refine ⟨fl, rfl, ⟨_, SqL.of efl⟩, ze6 (K := K) (a := fl) (xs := fs.map V.str) (fun i σ H' => (∃ y4 y5, σ = [some (.ref b), some (.int 2), some (.int most), some (.ref r), y4, y5]) ∧ SameB b g H H' ∧ Bag H' b g l (n + 200 + 12 * i) ∧ H' fl = some (.lst (fs.map V.str)) ∧
    ∃ qs : List (Addr × PP), H' r = some (.lst (qs.map fun q => V.ref q.1)) ∧ (∀ q ∈ qs, H' q.1 = some (.tup [.str q.2.1, .int q.2.2]) ∧ Sm q.2.2) ∧ qs.map (·.2.1) = fs.take i) ?_ ?_ ?_ ?_⟩
   · exact ⟨⟨none, none, rfl⟩, S01, B1.mono (by omega), efl, [], er1, fun q hq => by simp at hq, rfl⟩
   · rintro i σ H' _ ⟨_, _, _, F1, _⟩
     exact SqL.of F1
   · rintro i x σ H2 hx ⟨⟨y4, y5, rfl⟩, S2, B2, F2, qs, e2, a2, u2⟩
     rw [List.getElem?_map] at hx
     cases ef : fs[i]? with
     | none => rw [ef] at hx; cases hx
     | some f' =>
      rw [ef] at hx
      obtain rfl : V.str f' = x := Option.some.inj hx
      have li : i < 9 := by have := (List.getElem?_eq_some_iff.mp ef).1; omega
      have ql : qs.length ≤ i := by have := congrArg List.length u2; rw [List.length_map, List.length_take] at this; omega
      refine ⟨_, rfl, b, g, l, _, rfl, B2, by omega, fun v lo hi H3 sp G3 B3 S3 => ?_⟩
      have e3 := S3 _ _ e2 rb rg
      refine ⟨_, rfl, .inl ⟨rfl, _, SqL.of e3⟩, _, rfl, rfl, _, rfl, iteF ⟨_, rfl, _, rfl, b, g, l, _, rfl, B3, by omega, fun k H4 k0 k1 B4 S4 => ⟨zq2, fun t ht => ?_⟩⟩⟩
      have e4 := S4 _ _ e3 rb rg
      have F4 := S4 _ _ (S3 _ _ F2 fb fg) fb fg
      have st := zae ht (.tup [V.str f', V.int k])
      have e5 := st _ _ e4
      refine ⟨r, _, _, rfl, rfl, e5, (by rw [List.length_map]; exact zap (by omega)), ?_⟩
      have tl := zeC (o := .lst (qs.map (fun q => V.ref q.1) ++ [V.ref t])) e5
      refine ⟨⟨_, _, rfl⟩, (((S2.trans S3).trans S4).trans st.sameB).off np, ((B4.same st).off rb rg rl).mono (by omega), ?_, qs ++ [(t, f', k)], ?_, ?_, ?_⟩
      · rw [zak fr]; exact st _ _ F4
      · rw [zab, List.map_append]; rfl
      · intro q hq
        rcases List.mem_append.mp hq with z | z
        · exact ⟨tl _ _ (st _ _ (S4.tup B3 (S3.tup B2 (a2 q z).1))), (a2 q z).2⟩
        · rw [List.mem_singleton.mp z]
          exact ⟨tl _ _ zab, ⟨k0, k1⟩⟩
      · rw [List.map_append, zaC ef, u2]; rfl
   · rintro σ H2 ⟨⟨y4, y5, rfl⟩, S2, B2, F2, qs, e2, a2, u2⟩
     rw [List.length_map, List.take_of_length_le (Nat.le_refl _)] at u2
     have ll : qs.length = fs.length := by have := congrArg List.length u2; rw [List.length_map] at this; exact this
     refine ⟨_, rfl, r, _, rfl, .inl ⟨SqL.of e2, fun t ht => ?_⟩⟩
     have st := zae ht (.tup (qs.map fun q => V.ref q.1))
     refine q t _ (.inr ⟨rfl, qs.map (·.2), ⟨qs, rfl, zab, fun q hq => st _ _ (a2 q hq).1⟩, ⟨by rw [List.length_map]; omega, fun p hp => ?_, ?_⟩, fun p hp => ?_⟩) ((B2.same st).mono (by rw [List.length_map]; omega)) (S2.trans st.sameB)
     · obtain ⟨q', hq', rfl⟩ := List.mem_map.mp hp
       have := fok _ (by rw [← u2]; exact List.mem_map_of_mem (f := fun (x : Addr × PP) => x.2.1) hq')
       exact this
     · rw [List.map_map]
       rw [show ((·.1) ∘ (·.2) : Addr × PP → Str) = (fun x => x.2.1) from rfl, u2]
       exact asc
     · obtain ⟨q', hq', rfl⟩ := List.mem_map.mp hp
       exact (a2 q' hq').2.md
 · refine ⟨fl, rfl, ⟨_, SqL.of efl⟩, ze6 (K := K) (a := fl) (xs := fs.map V.str) (fun i σ H' => (∃ y4 y5, σ = [some (.ref b), some (.int 3), some (.int most), some (.ref r), y4, y5]) ∧ SameB b g H H' ∧ Bag H' b g l (n + 200 + 12 * i) ∧ H' fl = some (.lst (fs.map V.str)) ∧
    ∃ qs : List (Addr × WP), H' r = some (.lst (qs.map fun q => V.ref q.1)) ∧ (∀ q ∈ qs, H' q.1 = some (.tup [.str q.2.1, eV q.2.2.1, eV q.2.2.2]) ∧ Good q.2.2.1 q.2.2.2) ∧ qs.map (·.2.1) = fs.take i) ?_ ?_ ?_ ?_⟩
   · exact ⟨⟨none, none, rfl⟩, S01, B1.mono (by omega), efl, [], er1, fun q hq => by simp at hq, rfl⟩
   · rintro i σ H' _ ⟨_, _, _, F1, _⟩
     exact SqL.of F1
   · rintro i x σ H2 hx ⟨⟨y4, y5, rfl⟩, S2, B2, F2, qs, e2, a2, u2⟩
     rw [List.getElem?_map] at hx
     cases ef : fs[i]? with
     | none => rw [ef] at hx; cases hx
     | some f' =>
      rw [ef] at hx
      obtain rfl : V.str f' = x := Option.some.inj hx
      have li : i < 9 := by have := (List.getElem?_eq_some_iff.mp ef).1; omega
      have ql : qs.length ≤ i := by have := congrArg List.length u2; rw [List.length_map, List.length_take] at this; omega
      refine ⟨_, rfl, b, g, l, _, rfl, B2, by omega, fun v lo hi H3 sp G3 B3 S3 => ?_⟩
      have e3 := S3 _ _ e2 rb rg
      have F3 := S3 _ _ F2 fb fg
      obtain ⟨sa, rfl, es⟩ := sp
      refine ⟨_, rfl, .inl ⟨rfl, _, SqL.of e3⟩, _, rfl, rfl, _, rfl, iteT ⟨_, rfl, _, rfl, sa, _, 0, _, rfl, rfl, SqT.of es, rfl, _, rfl, sa, _, 1, _, rfl, rfl, SqT.of es, rfl, zq3, fun t ht => ?_⟩⟩
      have st := zae ht (.tup [V.str f', eV lo, eV hi])
      have e5 := st _ _ e3
      refine ⟨r, _, _, rfl, rfl, e5, (by rw [List.length_map]; exact zap (by omega)), ?_⟩
      have tl := zeC (o := .lst (qs.map (fun q => V.ref q.1) ++ [V.ref t])) e5
      refine ⟨⟨_, _, rfl⟩, ((S2.trans S3).trans st.sameB).off np, ((B3.same st).off rb rg rl).mono (by omega), ?_, qs ++ [(t, f', lo, hi)], ?_, ?_, ?_⟩
      · rw [zak fr]; exact st _ _ F3
      · rw [zab, List.map_append]; rfl
      · intro q hq
        rcases List.mem_append.mp hq with z | z
        · exact ⟨tl _ _ (st _ _ (S3.tup B2 (a2 q z).1)), (a2 q z).2⟩
        · rw [List.mem_singleton.mp z]
          exact ⟨tl _ _ zab, G3⟩
      · rw [List.map_append, zaC ef, u2]; rfl
   · rintro σ H2 ⟨⟨y4, y5, rfl⟩, S2, B2, F2, qs, e2, a2, u2⟩
     rw [List.length_map, List.take_of_length_le (Nat.le_refl _)] at u2
     have ll : qs.length = fs.length := by have := congrArg List.length u2; rw [List.length_map] at this; exact this
     refine ⟨_, rfl, r, _, rfl, .inl ⟨SqL.of e2, fun t ht => ?_⟩⟩
     have st := zae ht (.tup (qs.map fun q => V.ref q.1))
     refine q t _ (.inl ⟨rfl, qs.map (·.2), ⟨qs, rfl, zab, fun q hq => st _ _ (a2 q hq).1⟩, ⟨by rw [List.length_map]; omega, fun p hp => ?_, ?_⟩, fun p hp => ?_⟩) ((B2.same st).mono (by rw [List.length_map]; omega)) (S2.trans st.sameB)
     · obtain ⟨q', hq', rfl⟩ := List.mem_map.mp hp
       have := fok _ (by rw [← u2]; exact List.mem_map_of_mem (f := fun (x : Addr × WP) => x.2.1) hq')
       exact ⟨this, (a2 q' hq').2.le⟩
     · rw [List.map_map]
       rw [show ((·.1) ∘ (·.2) : Addr × WP → Str) = (fun x => x.2.1) from rfl, u2]
       exact asc
     · obtain ⟨q', hq', rfl⟩ := List.mem_map.mp hp
       exact zkS (a2 q' hq').2
theorem zee (F : Fun K "_law_written" "_law_written" za8 f fd)  : FnOk P w K mg base CX0 1 f fd ["thing"] (zdH) := by
 refine F.ok sc_law_written (fun vs H Q E h => ?_) (fun cdv A outer s H vs Q E hr h => ?_)
 · obtain ⟨a, w', rfl, hw, ok, q⟩ := h
   rfl
 obtain ⟨a, w', rfl, hw, ok, q⟩ := h
 refine ⟨_, (zad (zaw (i := 1) sc_law_written.nd rfl (Or.inl rfl) (zcf zac))
  (zad (zen PassesOwn.never rfl (zce (pv 0)) (zai (i := 2) sc_law_written.nd rfl (Or.inl rfl)) (zad (zcz (N' := ["end"]) (js := [none]) (i := 3) sc_law_written.nd rfl (Or.inl rfl) rfl (zb5 (N := ["thing", "words", "part", "ends"]) (outer := zag za8) (by decide +kernel)) (zce (zcV zid (pv 2) (zdS zaf) zdT)) (fun _ _ _ _ _ => (zai (i := 0) (show List.Nodup (["end"] : List Str) by decide +kernel) rfl (Or.inl rfl))) (fun _ _ _ _ _ => zaJ) (fun _ _ _ _ _ => (zaY (zbH (zb2 (pv 0))) zaG (zbI zfK rfl B.str_ zea (zaa (pv 0) zac)))))
  (zah (zaM (zcM PySem.F.plainAttrs_list PySem.F.slot_list_append PySem.F.type_list_append zcl (pv 1) (zaa (zax zeq (zax zeq (zaA zaW (pv 2) zaf (fun _ _ => rfl)) zaG) (zcM PySem.F.plainAttrs_str PySem.F.slot_str_join PySem.F.type_str_join zdc zaG (zaa (pv 3) zac))) zac))))))
  (zah (zaj (zaY (zav (zj8 (zcR hr)) (pv 1) (zcf zac) (zau _)) (zcM PySem.F.plainAttrs_str PySem.F.slot_str_join PySem.F.type_str_join zdc zaG (zaa (pv 1) zac)) zaG))))), ?_⟩
 obtain ⟨ps, hps, ha, hp⟩ := hw
 refine ⟨sz0, fun r hr' => ?_⟩
 have s0 := zae hr' (.lst [])
 have hlen : ps.length = w'.length := by rw [← hps, List.length_map]
 have h100 := ok.len
 refine ⟨_, rfl, a, rfl, ⟨_, SqT.of (s0 _ _ ha)⟩, zgS (K := K) (a := a) (xs := ps.map fun p => V.ref p.1) (fun i σ H' => (∃ y2 y3, σ = [some (.ref a), some (.ref r), y2, y3]) ∧ Same H H' ∧ ∃ ts : List Str, H' r = some (.lst (ts.map V.str)) ∧ ts.map sg = (w'.take i).map gpL) ?_ ?_ ?_ ?_⟩
 · exact ⟨⟨none, none, rfl⟩, s0, [], zab, rfl⟩
 · rintro i σ H' _ ⟨_, s, _⟩
   exact SqT.of (s _ _ ha)
 · rintro i y σ H' hy ⟨⟨y2, y3, rfl⟩, s, ts, h1, h2⟩
   rw [List.getElem?_map] at hy
   cases hc : ps[i]? with
   | none => rw [hc] at hy; cases hy
   | some P1 =>
    rw [hc] at hy
    obtain rfl : V.ref P1.1 = y := Option.some.inj hy
    have hm : P1 ∈ ps := List.mem_of_getElem? hc
    have hwi : w'[i]? = some P1.2 := by rw [← hps, List.getElem?_map, hc]; rfl
    have hwm : P1.2 ∈ w' := List.mem_of_getElem? hwi
    obtain ⟨l8, l2, le⟩ := ok.ok _ hwm
    refine ⟨_, rfl, _, rfl, P1.1, _, rfl, SqT.of (s _ _ (hp P1 hm)), fun h => absurd h (zlW _ _), fun _ u hu => ?_⟩
    rw [zjd]
    have su := zae hu (.tup (P1.2.2.map eV))
    have eu : (upd H' u (.tup (P1.2.2.map eV))) u = some (.tup (P1.2.2.map eV)) := zab
    generalize upd H' u (.tup (P1.2.2.map eV)) = Hu at su eu
    refine ⟨u, rfl, ⟨_, SqT.of eu⟩, fun p hpn => ?_⟩
    have sp := zae hpn (.lst [])
    refine zdk (K := K) (a := u) (xs := P1.2.2.map eV) (fun j σ' ys H2 => (∃ v, σ' = [v]) ∧ Same Hu H2 ∧ H2 p = some (.lst ys) ∧ ∃ us : List Str, ys = us.map V.str ∧ us.map sg = (P1.2.2.take j).map endL) ?_ ?_ ?_ ?_
    · exact ⟨⟨none, rfl⟩, sp, zab, [], rfl, rfl⟩
    · rintro j σ' ys H2 hj ⟨_, s2, g1, us, rfl, g2⟩
      refine ⟨SqT.of (s2 _ _ eu), g1, ?_⟩
      rw [List.length_map]
      have := congrArg List.length g2
      rw [List.length_map, List.length_map, List.length_take] at this
      exact zap (by omega)
    · rintro j y σ' ys H2 N hy ⟨⟨v, rfl⟩, s2, g1, us, rfl, g2⟩ hN
      rw [List.getElem?_map] at hy
      cases ho : P1.2.2[j]? with
      | none => rw [ho] at hy; cases hy
      | some o =>
       rw [ho] at hy
       obtain rfl : eV o = y := Option.some.inj hy
       have fin : ∀ z : Str, sg z = endL o → N [some (eV o)] (us.map V.str ++ [V.str z]) (upd H2 p (.lst (us.map V.str ++ [V.str z]))) := fun z hz => by
        refine hN _ _ _ ⟨⟨_, rfl⟩, zbq s2 hpn, zab, us ++ [z], by rw [List.map_append]; rfl, ?_⟩
        rw [List.map_append, g2, zaC ho, List.map_append]
        show _ ++ [sg z] = _
        rw [hz]
        rfl
       cases o with
       | none => exact ⟨_, rfl, _, rfl, iteT ⟨g1, fin _ sg_star⟩⟩
       | some n =>
        refine ⟨_, rfl, _, rfl, iteF ⟨_, rfl, _, _, rfl, rfl, fun i e => ?_, g1, fin _ rfl⟩⟩
        cases e
        exact ziK ((le (some n) (List.mem_of_getElem? ho)).2 n rfl)
    · rintro σ' ys H2 ⟨_, s2, g1, us, rfl, g2⟩
      rw [List.length_map, List.take_of_length_le (Nat.le_refl _)] at g2
      have t2 := (s.trans su).trans s2
      have tH := su.trans s2
      have hlu : us.length = P1.2.2.length := by have := congrArg List.length g2; rw [List.length_map, List.length_map] at this; exact this
      have hu17 : ∀ z ∈ us, z.length ≤ 17 := fun z hz => by
       obtain ⟨o, ho, e⟩ := List.mem_map.mp (show sg z ∈ P1.2.2.map endL by rw [← g2]; exact List.mem_map_of_mem hz)
       rw [zaF, ← e]
       exact (le o ho).1
      have sgj : sg (Txt.join (".." : Str) us) = jn [46, 46] (P1.2.2.map endL) := by rw [zcp, g2, zeN]
      have lj : (Txt.join (".." : Str) us).length ≤ 62 * 2 := by
       rw [zaF, sgj]
       refine Nat.le_trans (zjL (by decide) fun v hv => ?_) (by rw [List.length_map]; omega)
       obtain ⟨o, ho, rfl⟩ := List.mem_map.mp hv
       have := (le o ho).1
       omega
      have LL : ∀ k : Nat, k ≤ 200 → k ≤ sizeLine := fun z hz => zgd (by omega)
      refine ⟨_, rfl, .inl ⟨rfl, _, SqL.of (tH _ _ h1)⟩, _, rfl, P1.1, _, 0, V.str P1.2.1, rfl, rfl, SqT.of (t2 _ _ (hp P1 hm)), zcb (j := 0) rfl, P1.2.1, _, rfl, rfl, LL _ (by rw [zaV]; omega), rfl, _, rfl, _, p, us, rfl, rfl, SqL.of g1, zdE (by rw [zdD]; decide) (fun z hz => Nat.le_trans (hu17 z hz) (by decide)) (by omega), _, _, rfl, rfl, LL _ (by rw [zbD, zaV]; omega), r, _, _, rfl, rfl, tH _ _ h1, ?_, ?_⟩
      · rw [List.length_map]
        have := congrArg List.length h2
        rw [List.length_map, List.length_map, List.length_take] at this
        exact zap (by omega)
      · refine ⟨⟨_, _, rfl⟩, zbq t2 hr', ts ++ [_], by rw [zab, List.map_append]; rfl, ?_⟩
        rw [List.map_append, h2, zaC hwi, List.map_append]
        congr 1
        show [sg _] = [gpL P1.2]
        rw [zcd, zcd, sgj, zb7]
        rfl
 · rintro σ H' ⟨⟨y2, y3, rfl⟩, s, ts, h1, h2⟩
   rw [List.length_map, hlen, List.take_of_length_le (Nat.le_refl _)] at h2
   have hl2 : ts.length = w'.length := by have := congrArg List.length h2; rw [List.length_map, List.length_map] at this; exact this
   refine ⟨_, rfl, sz0, fun e he => ?_⟩
   have se := zae he (.lst [])
   refine ⟨r, e, _, rfl, rfl, se _ _ h1, zab, _, rfl, ?_⟩
   cases hts : ts with
   | nil =>
    rw [hts] at hl2
    have hw0 : w' = [] := List.length_eq_zero_iff.mp hl2.symm
    exact iteF (q _ _ (s.trans se) (by rw [sg_minus, genL, if_pos hw0]))
   | cons t0 tr =>
    have hw0 : w' ≠ [] := fun z => by rw [z, hts] at hl2; cases hl2
    rw [← hts]
    refine zkO (by rw [hts]; rfl) ⟨rfl, _, rfl, _, r, ts, rfl, rfl, SqL.of (se _ _ h1), zdE (by rw [zd4]; decide) (fun t ht => ?_) (by omega), q _ _ (s.trans se) ?_⟩
    · obtain ⟨z, hz, e⟩ := List.mem_map.mp (show sg t ∈ w'.map gpL by rw [← h2]; exact List.mem_map_of_mem ht)
      rw [zaF, ← e]
      obtain ⟨z8, z2, ze⟩ := ok.ok z hz
      have := zkR z8 z2 ze
      exact this
    · rw [zcp, h2, zdy, genL, if_neg hw0]
theorem zef (F : Fun K "_law_refused" "_law_refused" zbx f fd) (G_read_piece : Γ31 P w K mg base cNoText) : FnOk P w K mg base CX0 8 f fd ["text"] (zdJ) := by
 refine F.ok sc_law_refused (fun vs H Q E h => ?_) (fun cdv A outer s H vs Q E hr h => ?_)
 · obtain ⟨x, w', rfl, wok, wmd, big, hx, q⟩ := h
   rfl
 obtain ⟨x, w', rfl, wok, wmd, big, hx, q⟩ := h
 refine ⟨_, (zad (zaw (i := 1) sc_law_refused.nd rfl (Or.inl rfl) zcN)
  (zad (zkE rfl rfl rfl rfl Cl.m_NoText Cl.o_NoText (fun RR pins => (zah (zaM (zj7 G_read_piece (hr.mono (by decide)) rfl (zaa (pv 0) zac))))) (fun a => (zah (zaw (i := 1) sc_law_refused.nd rfl (Or.inl rfl) zcN))))
  (zah (zaj (pv 1))))), ?_⟩
 refine ⟨_, rfl, x, w', rfl, wok, wmd, hx, fun h => absurd h big, fun _ H1 s1 => ?_⟩
 exact ⟨cNoText, rfl, Cl.s_NoText, fun a ha => ⟨_, rfl, q _ (s1.trans (zae ha _))⟩⟩
theorem zfz (F : Fun K "_law_right" "_law_right" zbG f fd) (G_law_same : Γ39 P w K mg base) (G_show_wish : Γ28 P w K mg base) (G_show_piece : Γ29 P w K mg base) (G_law_refused : Γ42 P w K mg base) (G_law_written : Γ41 P w K mg base) (G_read_wish : Γ30 P w K mg base) (G_read_piece : Γ31 P w K mg base cNoText) : FnOk P w K mg base CX0 12 f fd ["thing", "size"] (zeH) := by
 refine F.ok sc_law_right (fun vs H Q E h => ?_) (fun cdv A outer s H vs Q E hr h => ?_)
 · obtain ⟨a, size, rfl, th, q⟩ := h
   rfl
 obtain ⟨a, size, rfl, th, q⟩ := h
 refine ⟨_, (zad (zaw (i := 2) sc_law_right.nd rfl (Or.inl rfl) (zaY (zav zb3 (pv 1) zaf (zau _)) (zao G_show_wish (hr.mono (by decide)) rfl (zaa (pv 0) zac)) (zao G_show_piece (hr.mono (by decide)) rfl (zaa (pv 0) zac))))
  (zad (zaI (PW.pt (zdR (zaS (zaQ (zan (zas (n := "")) rfl B.isinstance_ zal (zaa (pv 2) (zaa (zaE (v := .ty "str") rfl B.str_ zea rfl) zac))))) (zcE (zav zeX (pv 2) (zao G_law_written (hr.mono (by decide)) rfl (zaa (pv 0) zac)) (zau _))))) (zah (zaj zcN)) zaq)
  (zad (zcz (N' := ["part", "size"]) (js := [none, some 1]) (i := 3) sc_law_right.nd rfl (Or.inl rfl) rfl (zb5 (N := ["thing", "size", "text", "great"]) (outer := zag zbG) (by decide +kernel)) (zce (pv 0)) (fun _ _ _ _ _ => (zai (i := 0) (show List.Nodup (["part", "size"] : List Str) by decide +kernel) rfl (Or.inl rfl))) (fun _ _ _ _ _ => zcU (PW.pt (zfr (zav zb3 (pv 1) zaf (zau _)) (zeU (zav zly (zan zjW rfl B.abs_ zlZ (zaa (zaA (zgP K rfl) (pv 0) zaf (fun _ _ => rfl)) zac)) (zax zbs zaf zaf) (zau _)))))) (fun _ _ _ _ _ => (pv 0)))
  (zad (zaI (zav (zj8 (zcR hr)) (pv 3) (zcf zac) (zau _)) (zah (zaj (zao G_law_refused (hr.mono (by decide)) rfl (zaa (pv 2) zac)))) zaq)
  (zah (zaj (zao G_law_same (hr.mono (by decide)) rfl (zaa (zaY (zav zb3 (pv 1) zaf (zau _)) (zao G_read_wish (hr.mono (by decide)) rfl (zaa (pv 2) zac)) (zao (FnHX.calm G_read_piece) (hr.mono (by decide)) rfl (zaa (pv 2) zac))) (zaa (pv 0) zac))))))))), ?_⟩
 rcases th with ⟨rfl, w', hw, wok, wsm⟩ | ⟨rfl, w', hw, wok, wmd⟩
 · have G0 : GAt H a (w'.map wG) := hw.gen
   have GO : GOk (w'.map wG) := wok.gen wsm
   refine ⟨_, rfl, rfl, _, rfl, iteT ⟨_, rfl, a, w', rfl, hw, wok, wsm, fun x H1 s1 hx => ?_⟩⟩
   refine ⟨_, rfl, _, "str", "str", true, rfl, .str x, rfl, _, rfl, iteF ⟨_, rfl, _, rfl, a, _, rfl, G0.same s1, GO, fun z H2 s2 hz => ?_⟩⟩
   obtain rfl : x = z := zdi (by rw [hx, hz, zlP])
   refine ⟨rfl, _, rfl, ?_⟩
   rw [decide_eq_true rfl]
   have t2 := s1.trans s2
   obtain ⟨ps, hps, ha, hp⟩ := hw.same t2
   have hlen : ps.length = w'.length := by rw [← hps, List.length_map]
   have h100 := wok.len
   refine iteF ⟨_, rfl, a, rfl, ⟨_, SqT.of ha⟩, fun p hpn => ?_⟩
   have s0 := zae hpn (.lst [])
   refine zdk (K := K) (a := a) (xs := ps.map fun p => V.ref p.1) (fun i σ' ys H' => (∃ v, σ' = [v, some (.int 3)]) ∧ Same H2 H' ∧ H' p = some (.lst ys) ∧ ys.length ≤ i ∧ ys = []) ?_ ?_ ?_ ?_
   · exact ⟨⟨none, rfl⟩, s0, zab, Nat.le_refl _, rfl⟩
   · rintro i σ' ys H' hi ⟨_, s, h1, h2, _⟩
     rw [List.length_map] at hi
     exact ⟨SqT.of (s _ _ ha), h1, zap (by omega)⟩
   · rintro i y σ' ys H' N hy ⟨⟨v, rfl⟩, s, h1, h2, h3⟩ hN
     rw [List.getElem?_map] at hy
     cases hc : ps[i]? with
     | none => rw [hc] at hy; cases hy
     | some P1 =>
      rw [hc] at hy
      obtain rfl : V.ref P1.1 = y := Option.some.inj hy
      refine ⟨_, rfl, rfl, _, rfl, ?_⟩
      rw [decide_eq_false (show ¬ V.int 3 = V.int 2 by simp)]
      exact iteF (iteF (hN _ _ _ ⟨⟨_, rfl⟩, s, h1, by omega, h3⟩))
   · rintro σ' ys H' ⟨_, s, h1, h2, h3⟩
     have t3 := t2.trans s
     refine ⟨_, rfl, sz0, fun e he => ?_⟩
     have se := zae he (.lst [])
     refine ⟨p, e, ys, rfl, rfl, se _ _ h1, zab, _, rfl, ?_⟩
     have t4 := t3.trans se
     rw [h3]
     refine iteF ⟨_, rfl, rfl, _, rfl, iteT ⟨_, rfl, x, w', rfl, wok, wsm, hx, fun t H6 s6 ht => ⟨_, rfl, 2, by decide, .ref t, .ref a, dyG (w'.map wG), rfl, by decide, repG ht.gen GO, repG (G0.same (t4.trans s6)) GO, depG _, fun H7 s7 => q _ ((t4.trans s6).trans s7)⟩⟩⟩
 · have G0 : GAt H a (w'.map pG) := hw.gen
   have GO : GOk (w'.map pG) := wok.gen wmd
   refine ⟨_, rfl, rfl, _, rfl, iteF ⟨_, rfl, a, w', rfl, hw, wok, wmd, fun x H1 s1 hx => ?_⟩⟩
   refine ⟨_, rfl, _, "str", "str", true, rfl, .str x, rfl, _, rfl, iteF ⟨_, rfl, _, rfl, a, _, rfl, G0.same s1, GO, fun z H2 s2 hz => ?_⟩⟩
   obtain rfl : x = z := zdi (by rw [hx, hz, zlQ])
   refine ⟨rfl, _, rfl, ?_⟩
   rw [decide_eq_true rfl]
   have t2 := s1.trans s2
   obtain ⟨ps, hps, ha, hp⟩ := hw.same8 t2
   have hlen : ps.length = w'.length := by rw [← hps, List.length_map]
   have h100 := wok.len
   refine iteF ⟨_, rfl, a, rfl, ⟨_, SqT.of ha⟩, fun p hpn => ?_⟩
   have s0 := zae hpn (.lst [])
   refine zdk (K := K) (a := a) (xs := ps.map fun p => V.ref p.1) (fun i σ' ys H' => (∃ v, σ' = [v, some (.int 2)]) ∧ Same H2 H' ∧ H' p = some (.lst ys) ∧ ys.length ≤ i ∧ (ys.isEmpty = true → PSm (w'.take i)) ∧ (ys.isEmpty = false → ¬ PSm w')) ?_ ?_ ?_ ?_
   · exact ⟨⟨none, rfl⟩, s0, zab, Nat.le_refl _, fun _ z hz => by simp at hz, fun z => by cases z⟩
   · rintro i σ' ys H' hi ⟨_, s, h1, h2, _⟩
     rw [List.length_map] at hi
     exact ⟨SqT.of (s _ _ ha), h1, zap (by omega)⟩
   · rintro i y σ' ys H' N hy ⟨⟨v, rfl⟩, s, h1, h2, h3⟩ hN
     rw [List.getElem?_map] at hy
     cases hc : ps[i]? with
     | none => rw [hc] at hy; cases hy
     | some P1 =>
      rw [hc] at hy
      obtain rfl : V.ref P1.1 = y := Option.some.inj hy
      have hm : P1 ∈ ps := List.mem_of_getElem? hc
      have hwi : w'[i]? = some P1.2 := by rw [← hps, List.getElem?_map, hc]; rfl
      have hwm : P1.2 ∈ w' := List.mem_of_getElem? hwi
      refine ⟨_, rfl, rfl, _, rfl, ?_⟩
      rw [decide_eq_true (show V.int 2 = V.int 2 from rfl)]
      refine iteT ⟨_, rfl, P1.1, _, 1, _, rfl, rfl, SqT.of (s _ _ (hp P1 hm)), rfl, _, rfl, _, _, rfl, rfl, ⟨by decide, by decide, by decide⟩, _, _, rfl, rfl, _, rfl, ?_⟩
      rw [zl7]
      by_cases sm : Sm P1.2.2
      · rw [decide_eq_false (fun z => z sm)]
        refine iteF (hN _ _ _ ⟨⟨_, rfl⟩, s, h1, by omega, fun e z hz => ?_, h3.2⟩)
        rw [zaC hwi] at hz
        rcases List.mem_append.mp hz with hz | hz
        · exact h3.1 e z hz
        · rw [List.mem_singleton.mp hz]; exact sm
      · rw [decide_eq_true sm]
        refine iteT ⟨_, rfl, h1, hN _ _ _ ⟨⟨_, rfl⟩, zbq s hpn, zab, by rw [List.length_append]; show _ + 1 ≤ _; omega, fun e => absurd e (by simp), fun _ hz => sm (hz _ hwm)⟩⟩
   · rintro σ' ys H' ⟨_, s, h1, h2, h3⟩
     have t3 := t2.trans s
     refine ⟨_, rfl, sz0, fun e he => ?_⟩
     have se := zae he (.lst [])
     refine ⟨p, e, ys, rfl, rfl, se _ _ h1, zab, _, rfl, ?_⟩
     have t4 := t3.trans se
     cases hy : ys.isEmpty with
     | false => exact iteT ⟨_, rfl, x, w', rfl, wok, wmd, h3.2 hy, hx, fun H5 s5 => q _ (t4.trans s5)⟩
     | true =>
      have psm : PSm w' := by
       have := h3.1 hy
       rw [List.length_map, hlen, List.take_of_length_le (Nat.le_refl _)] at this
       exact this
      refine iteF ⟨_, rfl, rfl, _, rfl, iteF ⟨_, rfl, x, w', rfl, wok, wmd, hx, fun _ t H6 s6 ht => ⟨_, rfl, 2, by decide, .ref t, .ref a, dyG (w'.map pG), rfl, by decide, repG ht.gen GO, repG (G0.same (t4.trans s6)) GO, depG _, fun H7 s7 => q _ ((t4.trans s6).trans s7)⟩, fun h => absurd psm h⟩⟩
theorem zlB (F : Fun K "law" "law" zgn f fd) (G_law_bag : Γ32 P w K mg base) (G_law_field : Γ37 P w K mg base) (G_parting_piece : Γ18 P w K mg base) (G_law_made : Γ40 P w K mg base) (G_law_draw : Γ33 P w K mg base) (G_law_right : Γ43 P w K mg base) : FnOk P w K mg base CX0 13 f fd ["script"] (zju K) := by
 refine F.ok sc_law (fun vs H Q E h => ?_) (fun cdv A outer s H vs Q E hr h => ?_)
 · obtain ⟨a, ns, rfl, hS, h63, q⟩ := h
   rfl
 obtain ⟨a, ns, rfl, hS, h63, q⟩ := h
 refine ⟨_, (zad (zaw (i := 1) sc_law.nd rfl (Or.inl rfl) (zao G_law_bag (hr.mono (by decide)) rfl (zaa (pv 0) zac)))
  (zad (zaw (i := 2) sc_law.nd rfl (Or.inl rfl) (zaz zac))
  (zad (zen PassesOwn.never rfl (zcj rfl B.range_ (zaa zaf zac)) (zai (i := 3) sc_law.nd rfl (Or.inl rfl)) (zad (zaw (i := 4) sc_law.nd rfl (Or.inl rfl) (zax zbR zaf (zao G_law_draw (hr.mono (by decide)) rfl (zaa (pv 1) (zaa zaf zac)))))
  (zad (zaw (i := 5) sc_law.nd rfl (Or.inl rfl) (zao G_law_made (hr.mono (by decide)) rfl (zaa (pv 1) (zaa (pv 4) (zaa (zax zbQ zaf (zax zeo zaf (pv 4))) zac)))))
  (zad (zaI (PW.pt (zdR (zaS (zaQ (zao G_law_right (hr.mono (by decide)) rfl (zaa (pv 5) (zaa (pv 4) zac))))) (zdR (zaS (zaQ (zao G_law_right (hr.mono (by decide)) rfl (zaa (pv 2) (zaa zaf zac))))) (zcE (zaS (zaQ (zao G_law_right (hr.mono (by decide)) rfl (zaa (pv 5) (zaa (pv 4) zac))))))))) (zah (zaj zcN)) zaq)
  (zah (zaw (i := 2) sc_law.nd rfl (Or.inl rfl) (zaY (zav zb3 (pv 4) zaf (zau _)) (pv 5) (pv 2))))))))
  (zad (zaw (i := 6) sc_law.nd rfl (Or.inl rfl) (zax zbQ (zax zbQ (zax zbs zaf zaf) zaf) (zao G_law_draw (hr.mono (by decide)) rfl (zaa (pv 1) (zaa zaf zac)))))
  (zad (zaw (i := 7) sc_law.nd rfl (Or.inl rfl) (zao G_law_field (hr.mono (by decide)) rfl (zaa (pv 1) zac)))
  (zad (zaw (i := 8) sc_law.nd rfl (Or.inl rfl) (zcf (zaa (zaz (zaa zbd (zaa zbd zac))) (zaa (zaz (zaa (zax zbQ zaf (pv 6)) (zaa zbd zac))) (zaa (zaz (zaa zbd (zaa (pv 6) zac))) (zaa (zaz (zaa (zax zbQ zaf (pv 6)) (zaa (pv 6) zac))) zac))))))
  (zad (zaw (i := 9) sc_law.nd rfl (Or.inl rfl) (zaA zaD (pv 8) (zao G_law_draw (hr.mono (by decide)) rfl (zaa (pv 1) (zaa zaf zac))) (fun _ _ => rfl)))
  (zad (zaw (i := 10) sc_law.nd rfl (Or.inl rfl) (zaA zaD (pv 8) (zax zbR zaf (zao G_law_draw (hr.mono (by decide)) rfl (zaa (pv 1) (zaa zaf zac)))) (fun _ _ => rfl)))
  (zad (zaw (i := 11) sc_law.nd rfl (Or.inl rfl) (zao G_parting_piece (hr.mono (by decide)) rfl (zaa (zaz (zaa (zaz (zaa (pv 7) (zaa (zaA zaW (pv 9) zaf (fun _ _ => rfl)) (zaa (zaA zaW (pv 9) zaf (fun _ _ => rfl)) zac)))) zac)) (zaa (zaz (zaa (zaz (zaa (pv 7) (zaa (zaA zaW (pv 10) zaf (fun _ _ => rfl)) (zaa (zaA zaW (pv 10) zaf (fun _ _ => rfl)) zac)))) zac)) zac))))
  (zad (zaw (i := 12) sc_law.nd rfl (Or.inl rfl) (zbP (zbO (za0 (zaA zaW (pv 10) zaf (fun _ _ => rfl)))) (zaT (zft (zbO (zb2 (zaA zaW (pv 9) zaf (fun _ _ => rfl)))) (zaT (zbr zkI (zaA zaW (pv 9) zaf (fun _ _ => rfl)) (zaA zaW (pv 10) zaf (fun _ _ => rfl)) (zau _)))))))
  (zad (zaw (i := 13) sc_law.nd rfl (Or.inl rfl) (zbP (zbO (za0 (zaA zaW (pv 10) zaf (fun _ _ => rfl)))) (zaT (zft (zbO (zb2 (zaA zaW (pv 9) zaf (fun _ _ => rfl)))) (zaT (zbr zlx (zaA zaW (pv 9) zaf (fun _ _ => rfl)) (zaA zaW (pv 10) zaf (fun _ _ => rfl)) (zau _)))))))
  (zad (zaI (PW.pt (zfr (zaS (zaQ (pv 12))) (zeU (zaS (zaQ (pv 13)))))) (zah (zaj (zbO (zb2 (pv 11))))) zaq)
  (zah (zaj (zbP (zbO (za0 (pv 11))) (zaT (zao G_law_right (hr.mono (by decide)) rfl (zaa (pv 11) (zaa zaf zac))))))))))))))))))), ?_⟩
 refine ⟨_, rfl, a, ns, rfl, hS, h63, fun b g l H1 B1 S1 nb ng => ?_⟩
 refine ⟨sz0, fun t0 ht0 => ?_⟩
 have s0 := zae ht0 (.tup [])
 have e0 : (upd H1 t0 (.tup [])) t0 = some (.tup []) := zab
 have B0 := B1.same s0
 generalize upd H1 t0 (.tup []) = H2 at s0 e0 B0
 refine ⟨8, rfl, by decide, by decide, zi6 (n := 8) (fun i σ H' => (∃ la, (∃ y3 y4 y5 y6 y7 y8 y9 y10 y11 y12 y13, σ = [some (.ref a), some (.ref b), some (.ref la), y3, y4, y5, y6, y7, y8, y9, y10, y11, y12, y13]) ∧ Thing H' la 2) ∧ Bag H' b g l (1000 * (i : Int))) ?_ ?_ ?_⟩
 · exact ⟨⟨t0, ⟨none, none, none, none, none, none, none, none, none, none, none, rfl⟩, .inr ⟨rfl, [], ⟨[], rfl, e0, fun p hp => by simp at hp⟩, ⟨by simp, fun x hx => by simp at hx, by simp⟩, fun p hp => by simp at hp⟩⟩, B0.mono (by decide)⟩
 · rintro i σ H3 hi ⟨⟨la, ⟨y3, y4, y5, y6, y7, y8, y9, y10, y11, y12, y13, rfl⟩, Tl⟩, B3⟩
   refine ⟨_, rfl, b, g, l, _, 2, rfl, B3, by omega, by decide, by decide, fun c H4 c0 c1 B4 S4 => ?_⟩
   refine ⟨_, _, rfl, rfl, ?_⟩
   refine ⟨_, rfl, _, rfl, _, rfl, _, _, rfl, rfl, .inl ⟨by decide, by decide⟩, _, _, rfl, rfl, b, g, l, _, 2 + c, 12 - 2 * (2 + c), rfl, B4, by omega, by omega, by omega, by omega, fun th H5 T5 B5 S5 => ?_⟩
   have Tl5 : Thing H5 la 2 := (Tl.keep fun _ _ e => S4.tup B3 e).keep fun _ _ e => S5.tup B4 e
   refine ⟨_, rfl, _, rfl, th, _, rfl, T5, fun H6 s6 => ⟨_, rfl, iteF ⟨_, rfl, la, 2, rfl, Tl5.same s6, fun H7 s7 => ⟨_, rfl, iteF ⟨_, rfl, _, rfl, th, _, rfl, T5.same (s6.trans s7), fun H8 s8 => ⟨_, rfl, iteF ?_⟩⟩⟩⟩⟩⟩
   have t8 := (s6.trans s7).trans s8
   refine ⟨_, rfl, rfl, _, rfl, ite2 (fun h => ?_) (fun h => ?_)⟩
   · have h : V.int (2 + c) = V.int 2 := of_decide_eq_true h
     injection h with h
     rw [h] at T5
     exact ⟨_, rfl, ⟨th, ⟨_, _, _, _, _, _, _, _, _, _, _, rfl⟩, T5.same t8⟩, (B5.same t8).mono (by omega)⟩
   · exact ⟨_, rfl, ⟨la, ⟨_, _, _, _, _, _, _, _, _, _, _, rfl⟩, Tl5.same t8⟩, (B5.same t8).mono (by omega)⟩
 · rintro σ H3 ⟨⟨la, ⟨y3, y4, y5, y6, y7, y8, y9, y10, y11, y12, y13, rfl⟩, Tl⟩, B3⟩
   refine ⟨_, _, rfl, rfl, ⟨by decide, by decide, by decide⟩, _, _, rfl, rfl, _, rfl, b, g, l, _, 3, rfl, B3, by omega, by decide, by decide, fun c H4 c0 c1 B4 S4 => ?_⟩
   have e15 : (10 : Int) ^ (15 : Int).toNat - 1 = T15 - 1 := by rw [show (10 : Int) ^ (15 : Int).toNat = T15 by decide]
   refine ⟨T15 - 1, c, congrArg V.int e15, rfl, ?_⟩
   have hE : 0 ≤ T15 - 1 - c ∧ T15 - 1 - c < T15 := by unfold T15; omega
   refine ⟨_, rfl, b, g, l, _, rfl, B4, by omega, fun f' H5 F5 B5 S5 => ?_⟩
   refine ⟨zq2, fun u1 hu1 => ?_⟩
   have s1 := zae hu1 (.tup [V.non, V.non])
   have e1 : (upd H5 u1 (.tup [V.non, V.non])) u1 = some (.tup [V.non, V.non]) := zab
   generalize upd H5 u1 (.tup [V.non, V.non]) = H51 at s1 e1
   refine ⟨_, rfl, _, _, rfl, rfl, zq2, fun u2 hu2 => ?_⟩
   have s2 := zae hu2 (.tup [V.int (0 - (T15 - 1 - c)), V.non])
   have e2 : (upd H51 u2 (.tup [V.int (0 - (T15 - 1 - c)), V.non])) u2 = some (.tup [V.int (0 - (T15 - 1 - c)), V.non]) := zab
   generalize upd H51 u2 (.tup [V.int (0 - (T15 - 1 - c)), V.non]) = H52 at s2 e2
   refine ⟨_, rfl, zq2, fun u3 hu3 => ?_⟩
   have s3 := zae hu3 (.tup [V.non, V.int (T15 - 1 - c)])
   have e3 : (upd H52 u3 (.tup [V.non, V.int (T15 - 1 - c)])) u3 = some (.tup [V.non, V.int (T15 - 1 - c)]) := zab
   generalize upd H52 u3 (.tup [V.non, V.int (T15 - 1 - c)]) = H53 at s3 e3
   refine ⟨_, rfl, _, _, rfl, rfl, _, rfl, zq2, fun u4 hu4 => ?_⟩
   have s4 := zae hu4 (.tup [V.int (0 - (T15 - 1 - c)), V.int (T15 - 1 - c)])
   have e4 : (upd H53 u4 (.tup [V.int (0 - (T15 - 1 - c)), V.int (T15 - 1 - c)])) u4 = some (.tup [V.int (0 - (T15 - 1 - c)), V.int (T15 - 1 - c)]) := zab
   generalize upd H53 u4 (.tup [V.int (0 - (T15 - 1 - c)), V.int (T15 - 1 - c)]) = H54 at s4 e4
   have t54 := s1.trans (s2.trans (s3.trans s4))
   have B54 := B5.same t54
   refine ⟨(by show 4 ≤ sizeLine; decide), fun ls hls => ?_⟩
   obtain ⟨lb, lg, _⟩ := B54.free hls
   have s5 := zae hls (.lst [V.ref u1, V.ref u2, V.ref u3, V.ref u4])
   have e5 : (upd H54 ls (.lst [V.ref u1, V.ref u2, V.ref u3, V.ref u4])) ls = some (.lst [V.ref u1, V.ref u2, V.ref u3, V.ref u4]) := zab
   have B6 := B54.same s5
   generalize upd H54 ls (.lst [V.ref u1, V.ref u2, V.ref u3, V.ref u4]) = H6 at s5 e5 B6
   have pick : ∀ r : Int, 0 ≤ r → r < 4 → ∃ (u : Addr) (lo hi : Option Int), atI [V.ref u1, V.ref u2, V.ref u3, V.ref u4] r = some (.ref u) ∧ H6 u = some (.tup [eV lo, eV hi]) ∧ (lo = none ∨ lo = some (0 - (T15 - 1 - c))) ∧ (hi = none ∨ hi = some (T15 - 1 - c)) := fun r r0 r1 => by
    have k1 := s5 _ _ (s4 _ _ (s3 _ _ (s2 _ _ e1)))
    have k2 := s5 _ _ (s4 _ _ (s3 _ _ e2))
    have k3 := s5 _ _ (s4 _ _ e3)
    have k4 := s5 _ _ e4
    obtain rfl | rfl | rfl | rfl : r = 0 ∨ r = 1 ∨ r = 2 ∨ r = 3 := by omega
    · exact ⟨u1, none, none, rfl, k1, .inl rfl, .inl rfl⟩
    · exact ⟨u2, some (0 - (T15 - 1 - c)), none, rfl, k2, .inr rfl, .inl rfl⟩
    · exact ⟨u3, none, some (T15 - 1 - c), rfl, k3, .inl rfl, .inr rfl⟩
    · exact ⟨u4, some (0 - (T15 - 1 - c)), some (T15 - 1 - c), rfl, k4, .inr rfl, .inr rfl⟩
   refine ⟨_, rfl, _, rfl, b, g, l, _, 4, rfl, B6, by omega, by decide, by decide, fun r1 H7 r10 r11 B7 S7 => ?_⟩
   obtain ⟨uo, lo, hi, hv, eo, co, ch⟩ := pick r1 r10 r11
   refine ⟨ls, _, _, _, rfl, rfl, SqL.of (S7 _ _ e5 lb lg), hv, ?_⟩
   refine ⟨_, rfl, _, rfl, b, g, l, _, 3, rfl, B7, by omega, by decide, by decide, fun r2 H8 r20 r21 B8 S8 => ?_⟩
   obtain ⟨uo2, lo2, hi2, hv2, eo2, co2, ch2⟩ := pick (1 + r2) (by omega) (by omega)
   refine ⟨_, _, rfl, rfl, ls, _, _, _, rfl, rfl, SqL.of (S8 _ _ (S7 _ _ e5 lb lg) lb lg), hv2, ?_⟩
   have eo := S8.tup B7 (S7.tup B6 eo)
   have eo2 := S8.tup B7 (S7.tup B6 eo2)
   have hlo : leO lo hi = true := by
    rcases co with rfl | rfl <;> rcases ch with rfl | rfl <;> first | rfl | exact decide_eq_true (by omega)
   have hlo2 : leO lo2 hi2 = true := by
    rcases co2 with rfl | rfl <;> rcases ch2 with rfl | rfl <;> first | rfl | exact decide_eq_true (by omega)
   refine ⟨_, rfl, _, rfl, uo, _, 0, _, rfl, rfl, SqT.of eo, rfl, _, rfl, uo, _, 1, _, rfl, rfl, SqT.of eo, rfl, zq3, fun p1 hp1 => ?_⟩
   have q1 := zae hp1 (.tup [V.str f', eV lo, eV hi])
   have z1 : (upd H8 p1 (.tup [V.str f', eV lo, eV hi])) p1 = some (.tup [V.str f', eV lo, eV hi]) := zab
   generalize upd H8 p1 (.tup [V.str f', eV lo, eV hi]) = H81 at q1 z1
   refine ⟨(by show 1 ≤ sizeLine; decide), fun w1 hw1 => ?_⟩
   have q2 := zae hw1 (.tup [V.ref p1])
   have z2 : (upd H81 w1 (.tup [V.ref p1])) w1 = some (.tup [V.ref p1]) := zab
   generalize upd H81 w1 (.tup [V.ref p1]) = H82 at q2 z2
   have eoB := q2 _ _ (q1 _ _ eo2)
   refine ⟨_, rfl, _, rfl, uo2, _, 0, _, rfl, rfl, SqT.of eoB, rfl, _, rfl, uo2, _, 1, _, rfl, rfl, SqT.of eoB, rfl, zq3, fun p2 hp2 => ?_⟩
   have q3 := zae hp2 (.tup [V.str f', eV lo2, eV hi2])
   have z3 : (upd H82 p2 (.tup [V.str f', eV lo2, eV hi2])) p2 = some (.tup [V.str f', eV lo2, eV hi2]) := zab
   generalize upd H82 p2 (.tup [V.str f', eV lo2, eV hi2]) = H83 at q3 z3
   refine ⟨(by show 1 ≤ sizeLine; decide), fun w2 hw2 => ?_⟩
   have q4 := zae hw2 (.tup [V.ref p2])
   have z4 : (upd H83 w2 (.tup [V.ref p2])) w2 = some (.tup [V.ref p2]) := zab
   generalize upd H83 w2 (.tup [V.ref p2]) = H84 at q4 z4
   have t84 := q1.trans (q2.trans (q3.trans q4))
   have WA1 : WishAt H84 w1 [(f', lo, hi)] := ⟨[(p1, f', lo, hi)], rfl, q4 _ _ (q3 _ _ z2), fun p hp => by rw [List.mem_singleton.mp hp]; exact q4 _ _ (q3 _ _ (q2 _ _ z1))⟩
   have WA2 : WishAt H84 w2 [(f', lo2, hi2)] := ⟨[(p2, f', lo2, hi2)], rfl, z4, fun p hp => by rw [List.mem_singleton.mp hp]; exact q4 _ _ z3⟩
   have O1 : WOk [(f', lo, hi)] := ⟨by simp, fun p hp => by rw [List.mem_singleton.mp hp]; exact ⟨F5, hlo⟩, by simp⟩
   have O2 : WOk [(f', lo2, hi2)] := ⟨by simp, fun p hp => by rw [List.mem_singleton.mp hp]; exact ⟨F5, hlo2⟩, by simp⟩
   have mdp := zkL (f := f') hE co ch co2 ch2
   refine ⟨w1, w2, _, _, rfl, WA1, WA2, O1, O2, fun hre H9 s9 => ?_, fun hre r9 H9 s9 P9 => ?_⟩
   · have t9 := t84.trans s9
     rw [zfq] at hre
     obtain ⟨d1, d2⟩ := (Bool.and_eq_true _ _).mp hre
     refine zkh (u := uo) (u2 := uo2) rfl rfl (t9 _ _ eo) (t9 _ _ eo2) ?_
     rw [d1]
     refine zjl (u := uo) (u2 := uo2) rfl rfl (t9 _ _ eo) (t9 _ _ eo2) ?_
     rw [d2]
     exact ⟨_, rfl, _, rfl, iteT ⟨_, rfl, _, rfl, iteT ⟨_, rfl, q _⟩⟩⟩
   · have t9 := t84.trans s9
     rw [zfq] at hre
     have TT : Thing H9 r9 2 := .inr ⟨rfl, _, P9, ⟨by simp [zgt], fun x hx => by rw [List.mem_singleton.mp hx]; exact F5, by simp [zgt]⟩, fun p hp => by rw [List.mem_singleton.mp hp]; exact mdp⟩
     refine zkh (u := uo) (u2 := uo2) rfl rfl (t9 _ _ eo) (t9 _ _ eo2) ?_
     cases d1 : zgU lo2 lo with
     | false =>
      refine zjl (u := uo) (u2 := uo2) rfl rfl (t9 _ _ eo) (t9 _ _ eo2) ?_
      exact ⟨_, rfl, _, rfl, iteF (iteF ⟨_, rfl, _, rfl, iteT ⟨_, rfl, r9, 2, rfl, TT, fun H10 s10 => q _⟩⟩)⟩
     | true =>
      rw [d1, Bool.true_and] at hre
      refine zjl (u := uo) (u2 := uo2) rfl rfl (t9 _ _ eo) (t9 _ _ eo2) ?_
      rw [hre]
      exact ⟨_, rfl, _, rfl, iteT ⟨_, rfl, _, rfl, iteF ⟨_, rfl, _, rfl, iteT ⟨_, rfl, r9, 2, rfl, TT, fun H10 s10 => q _⟩⟩⟩⟩
end
open PySem.W (nsIn mg_of mg_none_of fnOf keepIn codeIn)
abbrev dF (n : Str) (s : Stmt) := fnOf n n (zbT s) (zbv s) (zag s) .none
theorem bn1 {K : PySem.W.Frag} {x : Str} {st : Stmt} {f : Addr} {fd : FuncData} {p0 : Str} (F : Fun K x x st f fd) (h : ∀ (kV doc pm : Value) (an : Option Addr) (cdv ct u0 : Value), bindArgs (fnOf x x (zbT st) (zbv st) (zag st) .none kV doc pm an cdv ct) ⟨[u0], []⟩ = pure [(p0, u0)] := by intros; rfl) : Binds K fd [p0] [] :=
 F.binds fun kV doc pm an cdv ct us hl => match us, hl with | [u0], _ => h kV doc pm an cdv ct u0
theorem bn2 {K : PySem.W.Frag} {x : Str} {st : Stmt} {f : Addr} {fd : FuncData} {p0 p1 : Str} (F : Fun K x x st f fd) (h : ∀ (kV doc pm : Value) (an : Option Addr) (cdv ct u0 u1 : Value), bindArgs (fnOf x x (zbT st) (zbv st) (zag st) .none kV doc pm an cdv ct) ⟨[u0, u1], []⟩ = pure [(p0, u0), (p1, u1)] := by intros; rfl) : Binds K fd [p0, p1] [] :=
 F.binds fun kV doc pm an cdv ct us hl => match us, hl with | [u0, u1], _ => h kV doc pm an cdv ct u0 u1
theorem bn3 {K : PySem.W.Frag} {x : Str} {st : Stmt} {f : Addr} {fd : FuncData} {p0 p1 p2 : Str} (F : Fun K x x st f fd) (h : ∀ (kV doc pm : Value) (an : Option Addr) (cdv ct u0 u1 u2 : Value), bindArgs (fnOf x x (zbT st) (zbv st) (zag st) .none kV doc pm an cdv ct) ⟨[u0, u1, u2], []⟩ = pure [(p0, u0), (p1, u1), (p2, u2)] := by intros; rfl) : Binds K fd [p0, p1, p2] [] :=
 F.binds fun kV doc pm an cdv ct us hl => match us, hl with | [u0, u1, u2], _ => h kV doc pm an cdv ct u0 u1 u2
theorem all_mk {l : PySem.W.OpenLaw} {w : World} {K : PySem.W.Frag} {h : Heap} {mg : Str → Option Value} {fa f1 f2 f3 f4 f5 f6 f7 f8 f9 f10 f11 f12 f13 f14 f15 f16 f17 f18 f19 f20 f21 f22 f23 f24 f25 f26 f27 f28 f29 f30 f31 f32 f33 f34 f35 f36 f37 f38 f39 f40 f41 f42 f43 f44 f45 : Addr} (X : K.In h) (G : h.Ns mainGlobals mg) (hfa : mg "law" = some (.ref fa))
 {od1 od2 od3 od4 od5 od6 od7 od8 od9 od10 od11 od12 od13 od14 od15 od16 od17 od18 od19 od20 od21 od22 od23 od24 od25 od26 od27 od28 od29 od30 od31 od32 od33 od34 od35 od36 od37 od38 od39 od40 od41 od42 od43 od44 od45 an1 an2 an3 an4 an5 an6 an7 an8 an9 an10 an11 an12 an13 an14 an15 an16 an17 an18 an19 an20 an21 an22 an23 an24 an25 an26 an27 an28 an29 an30 an31 an32 an33 an34 an35 an36 an37 an38 an39 an40 an41 an42 an43 an44 an45 : Option Addr} {sl1 sl2 sl3 sl4 sl5 sl6 sl7 sl8 sl9 sl10 sl11 sl12 sl13 sl14 sl15 sl16 sl17 sl18 sl19 sl20 sl21 sl22 sl23 sl24 sl25 sl26 sl27 sl28 sl29 sl30 sl31 sl32 sl33 sl34 sl35 sl36 sl37 sl38 sl39 sl40 sl41 sl42 sl43 sl44 sl45 : Array (Option Value)} {oc1 oc2 oc3 oc4 oc5 oc6 oc7 oc8 oc9 oc10 oc11 oc12 oc13 oc14 oc15 oc16 oc17 oc18 oc19 oc20 oc21 oc22 oc23 oc24 oc25 oc26 oc27 oc28 oc29 oc30 oc31 oc32 oc33 oc34 oc35 oc36 oc37 oc38 oc39 oc40 oc41 oc42 oc43 oc44 oc45 kV1 kV2 kV3 kV4 kV5 kV6 kV7 kV8 kV9 kV10 kV11 kV12 kV13 kV14 kV15 kV16 kV17 kV18 kV19 kV20 kV21 kV22 kV23 kV24 kV25 kV26 kV27 kV28 kV29 kV30 kV31 kV32 kV33 kV34 kV35 kV36 kV37 kV38 kV39 kV40 kV41 kV42 kV43 kV44 kV45 dc1 dc2 dc3 dc4 dc5 dc6 dc7 dc8 dc9 dc10 dc11 dc12 dc13 dc14 dc15 dc16 dc17 dc18 dc19 dc20 dc21 dc22 dc23 dc24 dc25 dc26 dc27 dc28 dc29 dc30 dc31 dc32 dc33 dc34 dc35 dc36 dc37 dc38 dc39 dc40 dc41 dc42 dc43 dc44 dc45 pm1 pm2 pm3 pm4 pm5 pm6 pm7 pm8 pm9 pm10 pm11 pm12 pm13 pm14 pm15 pm16 pm17 pm18 pm19 pm20 pm21 pm22 pm23 pm24 pm25 pm26 pm27 pm28 pm29 pm30 pm31 pm32 pm33 pm34 pm35 pm36 pm37 pm38 pm39 pm40 pm41 pm42 pm43 pm44 pm45 cd1 cd2 cd3 cd4 cd5 cd6 cd7 cd8 cd9 cd10 cd11 cd12 cd13 cd14 cd15 cd16 cd17 cd18 cd19 cd20 cd21 cd22 cd23 cd24 cd25 cd26 cd27 cd28 cd29 cd30 cd31 cd32 cd33 cd34 cd35 cd36 cd37 cd38 cd39 cd40 cd41 cd42 cd43 cd44 cd45 ct1 ct2 ct3 ct4 ct5 ct6 ct7 ct8 ct9 ct10 ct11 ct12 ct13 ct14 ct15 ct16 ct17 ct18 ct19 ct20 ct21 ct22 ct23 ct24 ct25 ct26 ct27 ct28 ct29 ct30 ct31 ct32 ct33 ct34 ct35 ct36 ct37 ct38 ct39 ct40 ct41 ct42 ct43 ct44 ct45 : Value}
 (a1 : nsIn K mainGlobals "is_whole" = some (some (.ref f1))) (l1 : K.lookup f1 = some ⟨oc1, od1, .func (dF "is_whole" zcx kV1 dc1 pm1 an1 cd1 ct1), sl1⟩) (c1 : codeIn K cd1 "is_whole" = true) (k1 : keepIn K (.ref f1) = true)
 (a2 : nsIn K mainGlobals "is_end" = some (some (.ref f2))) (l2 : K.lookup f2 = some ⟨oc2, od2, .func (dF "is_end" zdz kV2 dc2 pm2 an2 cd2 ct2), sl2⟩) (c2 : codeIn K cd2 "is_end" = true) (k2 : keepIn K (.ref f2) = true)
 (a3 : nsIn K mainGlobals "is_span" = some (some (.ref f3))) (l3 : K.lookup f3 = some ⟨oc3, od3, .func (dF "is_span" zcQ kV3 dc3 pm3 an3 cd3 ct3), sl3⟩) (c3 : codeIn K cd3 "is_span" = true) (k3 : keepIn K (.ref f3) = true)
 (a4 : nsIn K mainGlobals "span_reaches" = some (some (.ref f4))) (l4 : K.lookup f4 = some ⟨oc4, od4, .func (dF "span_reaches" zbj kV4 dc4 pm4 an4 cd4 ct4), sl4⟩) (c4 : codeIn K cd4 "span_reaches" = true) (k4 : keepIn K (.ref f4) = true)
 (a5 : nsIn K mainGlobals "span_shared" = some (some (.ref f5))) (l5 : K.lookup f5 = some ⟨oc5, od5, .func (dF "span_shared" zaP kV5 dc5 pm5 an5 cd5 ct5), sl5⟩) (c5 : codeIn K cd5 "span_shared" = true) (k5 : keepIn K (.ref f5) = true)
 (a6 : nsIn K mainGlobals "number_of" = some (some (.ref f6))) (l6 : K.lookup f6 = some ⟨oc6, od6, .func (dF "number_of" zb8 kV6 dc6 pm6 an6 cd6 ct6), sl6⟩) (c6 : codeIn K cd6 "number_of" = true) (k6 : keepIn K (.ref f6) = true)
 (a7 : nsIn K mainGlobals "number_apart" = some (some (.ref f7))) (l7 : K.lookup f7 = some ⟨oc7, od7, .func (dF "number_apart" zbk kV7 dc7 pm7 an7 cd7 ct7), sl7⟩) (c7 : codeIn K cd7 "number_apart" = true) (k7 : keepIn K (.ref f7) = true)
 (a8 : nsIn K mainGlobals "is_field" = some (some (.ref f8))) (l8 : K.lookup f8 = some ⟨oc8, od8, .func (dF "is_field" zbY kV8 dc8 pm8 an8 cd8 ct8), sl8⟩) (c8 : codeIn K cd8 "is_field" = true) (k8 : keepIn K (.ref f8) = true)
 (a9 : nsIn K mainGlobals "is_wish_part" = some (some (.ref f9))) (l9 : K.lookup f9 = some ⟨oc9, od9, .func (dF "is_wish_part" zbl kV9 dc9 pm9 an9 cd9 ct9), sl9⟩) (c9 : codeIn K cd9 "is_wish_part" = true) (k9 : keepIn K (.ref f9) = true)
 (a10 : nsIn K mainGlobals "is_piece_part" = some (some (.ref f10))) (l10 : K.lookup f10 = some ⟨oc10, od10, .func (dF "is_piece_part" za9 kV10 dc10 pm10 an10 cd10 ct10), sl10⟩) (c10 : codeIn K cd10 "is_piece_part" = true) (k10 : keepIn K (.ref f10) = true)
 (a11 : nsIn K mainGlobals "fields_ascend" = some (some (.ref f11))) (l11 : K.lookup f11 = some ⟨oc11, od11, .func (dF "fields_ascend" zaN kV11 dc11 pm11 an11 cd11 ct11), sl11⟩) (c11 : codeIn K cd11 "fields_ascend" = true) (k11 : keepIn K (.ref f11) = true)
 (a12 : nsIn K mainGlobals "is_wish" = some (some (.ref f12))) (l12 : K.lookup f12 = some ⟨oc12, od12, .func (dF "is_wish" zch kV12 dc12 pm12 an12 cd12 ct12), sl12⟩) (c12 : codeIn K cd12 "is_wish" = true) (k12 : keepIn K (.ref f12) = true)
 (a13 : nsIn K mainGlobals "is_piece" = some (some (.ref f13))) (l13 : K.lookup f13 = some ⟨oc13, od13, .func (dF "is_piece" zbX kV13 dc13 pm13 an13 cd13 ct13), sl13⟩) (c13 : codeIn K cd13 "is_piece" = true) (k13 : keepIn K (.ref f13) = true)
 (a14 : nsIn K mainGlobals "check_wish" = some (some (.ref f14))) (l14 : K.lookup f14 = some ⟨oc14, od14, .func (dF "check_wish" zbL kV14 dc14 pm14 an14 cd14 ct14), sl14⟩) (c14 : codeIn K cd14 "check_wish" = true) (k14 : keepIn K (.ref f14) = true)
 (a15 : nsIn K mainGlobals "check_piece" = some (some (.ref f15))) (l15 : K.lookup f15 = some ⟨oc15, od15, .func (dF "check_piece" zby kV15 dc15 pm15 an15 cd15 ct15), sl15⟩) (c15 : codeIn K cd15 "check_piece" = true) (k15 : keepIn K (.ref f15) = true)
 (a16 : nsIn K mainGlobals "spans_by_field" = some (some (.ref f16))) (l16 : K.lookup f16 = some ⟨oc16, od16, .func (dF "spans_by_field" zaL kV16 dc16 pm16 an16 cd16 ct16), sl16⟩) (c16 : codeIn K cd16 "spans_by_field" = true) (k16 : keepIn K (.ref f16) = true)
 (a17 : nsIn K mainGlobals "reaches_spans" = some (some (.ref f17))) (l17 : K.lookup f17 = some ⟨oc17, od17, .func (dF "reaches_spans" za5 kV17 dc17 pm17 an17 cd17 ct17), sl17⟩) (c17 : codeIn K cd17 "reaches_spans" = true) (k17 : keepIn K (.ref f17) = true)
 (a18 : nsIn K mainGlobals "wish_reaches" = some (some (.ref f18))) (l18 : K.lookup f18 = some ⟨oc18, od18, .func (dF "wish_reaches" zbh kV18 dc18 pm18 an18 cd18 ct18), sl18⟩) (c18 : codeIn K cd18 "wish_reaches" = true) (k18 : keepIn K (.ref f18) = true)
 (a19 : nsIn K mainGlobals "parting_piece" = some (some (.ref f19))) (l19 : K.lookup f19 = some ⟨oc19, od19, .func (dF "parting_piece" za7 kV19 dc19 pm19 an19 cd19 ct19), sl19⟩) (c19 : codeIn K cd19 "parting_piece" = true) (k19 : keepIn K (.ref f19) = true)
 (a20 : nsIn K mainGlobals "check_written" = some (some (.ref f20))) (l20 : K.lookup f20 = some ⟨oc20, od20, .func (dF "check_written" zba kV20 dc20 pm20 an20 cd20 ct20), sl20⟩) (c20 : codeIn K cd20 "check_written" = true) (k20 : keepIn K (.ref f20) = true)
 (a21 : nsIn K mainGlobals "check_text" = some (some (.ref f21))) (l21 : K.lookup f21 = some ⟨oc21, od21, .func (dF "check_text" zbM kV21 dc21 pm21 an21 cd21 ct21), sl21⟩) (c21 : codeIn K cd21 "check_text" = true) (k21 : keepIn K (.ref f21) = true)
 (a22 : nsIn K mainGlobals "show_end" = some (some (.ref f22))) (l22 : K.lookup f22 = some ⟨oc22, od22, .func (dF "show_end" zcs kV22 dc22 pm22 an22 cd22 ct22), sl22⟩) (c22 : codeIn K cd22 "show_end" = true) (k22 : keepIn K (.ref f22) = true)
 (a23 : nsIn K mainGlobals "words_in" = some (some (.ref f23))) (l23 : K.lookup f23 = some ⟨oc23, od23, .func (dF "words_in" zcr kV23 dc23 pm23 an23 cd23 ct23), sl23⟩) (c23 : codeIn K cd23 "words_in" = true) (k23 : keepIn K (.ref f23) = true)
 (a24 : nsIn K mainGlobals "count_in" = some (some (.ref f24))) (l24 : K.lookup f24 = some ⟨oc24, od24, .func (dF "count_in" zbZ kV24 dc24 pm24 an24 cd24 ct24), sl24⟩) (c24 : codeIn K cd24 "count_in" = true) (k24 : keepIn K (.ref f24) = true)
 (a25 : nsIn K mainGlobals "number_in" = some (some (.ref f25))) (l25 : K.lookup f25 = some ⟨oc25, od25, .func (dF "number_in" zb9 kV25 dc25 pm25 an25 cd25 ct25), sl25⟩) (c25 : codeIn K cd25 "number_in" = true) (k25 : keepIn K (.ref f25) = true)
 (a26 : nsIn K mainGlobals "end_in" = some (some (.ref f26))) (l26 : K.lookup f26 = some ⟨oc26, od26, .func (dF "end_in" zdA kV26 dc26 pm26 an26 cd26 ct26), sl26⟩) (c26 : codeIn K cd26 "end_in" = true) (k26 : keepIn K (.ref f26) = true)
 (a27 : nsIn K mainGlobals "wish_part_in" = some (some (.ref f27))) (l27 : K.lookup f27 = some ⟨oc27, od27, .func (dF "wish_part_in" zbi kV27 dc27 pm27 an27 cd27 ct27), sl27⟩) (c27 : codeIn K cd27 "wish_part_in" = true) (k27 : keepIn K (.ref f27) = true)
 (a28 : nsIn K mainGlobals "piece_part_in" = some (some (.ref f28))) (l28 : K.lookup f28 = some ⟨oc28, od28, .func (dF "piece_part_in" za6 kV28 dc28 pm28 an28 cd28 ct28), sl28⟩) (c28 : codeIn K cd28 "piece_part_in" = true) (k28 : keepIn K (.ref f28) = true)
 (a29 : nsIn K mainGlobals "show_wish" = some (some (.ref f29))) (l29 : K.lookup f29 = some ⟨oc29, od29, .func (dF "show_wish" zbE kV29 dc29 pm29 an29 cd29 ct29), sl29⟩) (c29 : codeIn K cd29 "show_wish" = true) (k29 : keepIn K (.ref f29) = true)
 (a30 : nsIn K mainGlobals "show_piece" = some (some (.ref f30))) (l30 : K.lookup f30 = some ⟨oc30, od30, .func (dF "show_piece" zbm kV30 dc30 pm30 an30 cd30 ct30), sl30⟩) (c30 : codeIn K cd30 "show_piece" = true) (k30 : keepIn K (.ref f30) = true)
 (a31 : nsIn K mainGlobals "read_wish" = some (some (.ref f31))) (l31 : K.lookup f31 = some ⟨oc31, od31, .func (dF "read_wish" zbF kV31 dc31 pm31 an31 cd31 ct31), sl31⟩) (c31 : codeIn K cd31 "read_wish" = true) (k31 : keepIn K (.ref f31) = true)
 (a32 : nsIn K mainGlobals "read_piece" = some (some (.ref f32))) (l32 : K.lookup f32 = some ⟨oc32, od32, .func (dF "read_piece" zbn kV32 dc32 pm32 an32 cd32 ct32), sl32⟩) (c32 : codeIn K cd32 "read_piece" = true) (k32 : keepIn K (.ref f32) = true)
 (a33 : nsIn K mainGlobals "_law_bag" = some (some (.ref f33))) (l33 : K.lookup f33 = some ⟨oc33, od33, .func (dF "_law_bag" zbW kV33 dc33 pm33 an33 cd33 ct33), sl33⟩) (c33 : codeIn K cd33 "_law_bag" = true) (k33 : keepIn K (.ref f33) = true)
 (a34 : nsIn K mainGlobals "_law_draw" = some (some (.ref f34))) (l34 : K.lookup f34 = some ⟨oc34, od34, .func (dF "_law_draw" zcw kV34 dc34 pm34 an34 cd34 ct34), sl34⟩) (c34 : codeIn K cd34 "_law_draw" = true) (k34 : keepIn K (.ref f34) = true)
 (a35 : nsIn K mainGlobals "_law_number" = some (some (.ref f35))) (l35 : K.lookup f35 = some ⟨oc35, od35, .func (dF "_law_number" zbK kV35 dc35 pm35 an35 cd35 ct35), sl35⟩) (c35 : codeIn K cd35 "_law_number" = true) (k35 : keepIn K (.ref f35) = true)
 (a36 : nsIn K mainGlobals "_law_held" = some (some (.ref f36))) (l36 : K.lookup f36 = some ⟨oc36, od36, .func (dF "_law_held" zcv kV36 dc36 pm36 an36 cd36 ct36), sl36⟩) (c36 : codeIn K cd36 "_law_held" = true) (k36 : keepIn K (.ref f36) = true)
 (a37 : nsIn K mainGlobals "_law_span" = some (some (.ref f37))) (l37 : K.lookup f37 = some ⟨oc37, od37, .func (dF "_law_span" zct kV37 dc37 pm37 an37 cd37 ct37), sl37⟩) (c37 : codeIn K cd37 "_law_span" = true) (k37 : keepIn K (.ref f37) = true)
 (a38 : nsIn K mainGlobals "_law_field" = some (some (.ref f38))) (l38 : K.lookup f38 = some ⟨oc38, od38, .func (dF "_law_field" zbg kV38 dc38 pm38 an38 cd38 ct38), sl38⟩) (c38 : codeIn K cd38 "_law_field" = true) (k38 : keepIn K (.ref f38) = true)
 (a39 : nsIn K mainGlobals "_law_fields" = some (some (.ref f39))) (l39 : K.lookup f39 = some ⟨oc39, od39, .func (dF "_law_fields" zbo kV39 dc39 pm39 an39 cd39 ct39), sl39⟩) (c39 : codeIn K cd39 "_law_fields" = true) (k39 : keepIn K (.ref f39) = true)
 (a40 : nsIn K mainGlobals "_law_same" = some (some (.ref f40))) (l40 : K.lookup f40 = some ⟨oc40, od40, .func (dF "_law_same" zbV kV40 dc40 pm40 an40 cd40 ct40), sl40⟩) (c40 : codeIn K cd40 "_law_same" = true) (k40 : keepIn K (.ref f40) = true)
 (a41 : nsIn K mainGlobals "_law_made" = some (some (.ref f41))) (l41 : K.lookup f41 = some ⟨oc41, od41, .func (dF "_law_made" zcu kV41 dc41 pm41 an41 cd41 ct41), sl41⟩) (c41 : codeIn K cd41 "_law_made" = true) (k41 : keepIn K (.ref f41) = true)
 (a42 : nsIn K mainGlobals "_law_written" = some (some (.ref f42))) (l42 : K.lookup f42 = some ⟨oc42, od42, .func (dF "_law_written" za8 kV42 dc42 pm42 an42 cd42 ct42), sl42⟩) (c42 : codeIn K cd42 "_law_written" = true) (k42 : keepIn K (.ref f42) = true)
 (a43 : nsIn K mainGlobals "_law_refused" = some (some (.ref f43))) (l43 : K.lookup f43 = some ⟨oc43, od43, .func (dF "_law_refused" zbx kV43 dc43 pm43 an43 cd43 ct43), sl43⟩) (c43 : codeIn K cd43 "_law_refused" = true) (k43 : keepIn K (.ref f43) = true)
 (a44 : nsIn K mainGlobals "_law_right" = some (some (.ref f44))) (l44 : K.lookup f44 = some ⟨oc44, od44, .func (dF "_law_right" zbG kV44 dc44 pm44 an44 cd44 ct44), sl44⟩) (c44 : codeIn K cd44 "_law_right" = true) (k44 : keepIn K (.ref f44) = true)
 (a45 : nsIn K mainGlobals "law" = some (some (.ref f45))) (l45 : K.lookup f45 = some ⟨oc45, od45, .func (dF "law" zgn kV45 dc45 pm45 an45 cd45 ct45), sl45⟩) (c45 : codeIn K cd45 "law" = true) (k45 : keepIn K (.ref f45) = true)
 {t_MOST_LETTERS : Tok} (e_MOST_LETTERS : nsIn K mainGlobals "MOST_LETTERS" = some (some (.int 8 t_MOST_LETTERS)))
 {t_MOST_FIGURES : Tok} (e_MOST_FIGURES : nsIn K mainGlobals "MOST_FIGURES" = some (some (.int 15 t_MOST_FIGURES)))
 {fI cNoText : Addr} {od_i an_i : Option Addr} {sl_i : Array (Option Value)} {oc_i kV_i dc_i pm_i cd_i ct_i : Value} {nmT qT : Str} {NT : Addr} {bsT bmT : List Value} {hdT : Bool} {snT : List Str} {subT : List Value} {abT : Bool} {colT : Option Bool} {ddT : Option Addr} {kT0 kT1 kT2 kT3 kT5 : Option Value}
 (y_NoText : PySem.W.nsIn K mainGlobals "NoText" = some (some (.ref cNoText)))
 (y_T : K.lookup cNoText = some (excClassObj nmT qT cNoText NT bsT bmT hdT snT subT abT colT ddT kT0 kT1 kT2 kT3 kT5 "ValueError.__new__"))
 (y_bT : BmOk "ValueError" bmT)
 (y_TT : (Value.ref cNoText :: bmT).contains (.ref cNoText) = true)
 (y_iT : PySem.W.findIn K (.ref cNoText) "__init__" = some (some (.ref fI)))
 (y_kT : PySem.W.keepIn K (.ref cNoText) = true)
 (y_li : K.lookup fI = some ⟨oc_i, od_i, .func (PySem.W.fnOf "__init__" "NewsError.__init__" (zbT zek) (zbv zek) (zag zek) .none kV_i dc_i pm_i an_i cd_i ct_i), sl_i⟩)
 (y_ci : PySem.W.codeIn K cd_i "NewsError.__init__" = true)
 (y_ki : PySem.W.keepIn K (.ref fI) = true)
 (y_oi : oc_i = .type "function")
 (y_ve : PySem.W.nsIn K mainGlobals "ValueError" = some none)
 (z_len : nsIn K mainGlobals "len" = some none)
 (z_range : nsIn K mainGlobals "range" = some none)
 (z_isinstance : nsIn K mainGlobals "isinstance" = some none)
 (z_int : nsIn K mainGlobals "int" = some none)
 (z_bool : nsIn K mainGlobals "bool" = some none)
 (z_tuple : nsIn K mainGlobals "tuple" = some none)
 (z_list : nsIn K mainGlobals "list" = some none)
 (z_max : nsIn K mainGlobals "max" = some none)
 (z_min : nsIn K mainGlobals "min" = some none)
 (z_all : nsIn K mainGlobals "all" = some none)
 (z_zip : nsIn K mainGlobals "zip" = some none)
 (z_str : nsIn K mainGlobals "str" = some none)
 (z_dict : nsIn K mainGlobals "dict" = some none)
 (z_sorted : nsIn K mainGlobals "sorted" = some none)
 (z_set : nsIn K mainGlobals "set" = some none)
 (z_any : nsIn K mainGlobals "any" = some none)
 (z_sum : nsIn K mainGlobals "sum" = some none)
 (z_enumerate : nsIn K mainGlobals "enumerate" = some none)
 (z_repr : nsIn K mainGlobals "repr" = some none)
 (z_ord : nsIn K mainGlobals "ord" = some none)
 (z_chr : nsIn K mainGlobals "chr" = some none)
 (z_abs : nsIn K mainGlobals "abs" = some none)
 (z_reversed : nsIn K mainGlobals "reversed" = some none)
 : ∃ fd : FuncData, (∀ (s : Shared) (v : Value), BindsTo s fd ⟨[v], []⟩ [("script", v)]) ∧ ∀ base : Heap, K.In base → base.Ns mainGlobals mg → FnOk l.prog w K mg base CX0 13 fa fd ["script"] (zju K) := by
 have e := hfa.symm.trans (PySem.W.mg_of X G a45)
 cases e
 have B : Bl mg := ⟨mg_none_of X G z_len, mg_none_of X G z_range, mg_none_of X G z_isinstance, mg_none_of X G z_int, mg_none_of X G z_bool, mg_none_of X G z_tuple, mg_none_of X G z_list, mg_none_of X G z_max, mg_none_of X G z_min, mg_none_of X G z_all, mg_none_of X G z_zip, mg_none_of X G z_str, mg_none_of X G z_dict, mg_none_of X G z_sorted, mg_none_of X G z_set, mg_none_of X G z_any, mg_none_of X G z_sum, mg_none_of X G z_enumerate, mg_none_of X G z_repr, mg_none_of X G z_ord, mg_none_of X G z_chr, mg_none_of X G z_abs, mg_none_of X G z_reversed⟩
 refine ⟨PySem.W.fnOf "law" "law" (zbT zgn) (zbv zgn) (zag zgn) .none kV45 dc45 pm45 an45 cd45 ct45, fun s v => .of_eq rfl, fun base _ _ => ?_⟩
 have CMOST_LETTERS := mg_of X G e_MOST_LETTERS
 have CMOST_FIGURES := mg_of X G e_MOST_FIGURES
 have Fi := zat (st := zek) y_li y_ci y_ki
 have b_init := Fi.binds (ps := ["self", "text"]) fun _ _ _ _ _ _ us hl => match us, hl with | [_, _], _ => rfl
 have V0 : mg "ValueError" = none := PySem.W.mg_none_of X G y_ve
 have F_init := zkJ (P := l.prog) (w := w) (base := base) Fi V0
 have xT : XOk K cNoText := ⟨_, _, _, _, _, _, _, _, _, _, _, _, _, _, _, _, y_T, y_bT⟩
 have Cl : Kls K mg fI cNoText := {
  ve := V0
  m_NoText := PySem.W.mg_of X G y_NoText
  x_NoText := ⟨xT, y_iT, ⟨_, y_li, y_oi⟩, y_kT⟩
  o_NoText := xT
  s_NoText := ⟨_, _, _, _, _, _, _, _, _, _, _, _, _, _, _, _, y_T, y_TT⟩
 }
 have F1 := zat (st := zcx) l1 c1 k1
 have b1 := bn1 (p0 := "thing") F1
 have G_is_whole : FnH l.prog w K mg base 1 "is_whole" ["thing"] (zfY K) := ⟨_, _, zgC B Cl F_init b_init CMOST_LETTERS CMOST_FIGURES F1 , b1, k1, mg_of X G a1⟩
 have F2 := zat (st := zdz) l2 c2 k2
 have b2 := bn1 (p0 := "thing") F2
 have G_is_end : FnH l.prog w K mg base 2 "is_end" ["thing"] (zkw K) := ⟨_, _, ziz B Cl F_init b_init CMOST_LETTERS CMOST_FIGURES F2 G_is_whole, b2, k2, mg_of X G a2⟩
 have F3 := zat (st := zcQ) l3 c3 k3
 have b3 := bn1 (p0 := "thing") F3
 have G_is_span : FnH l.prog w K mg base 3 "is_span" ["thing"] (zeK K) := ⟨_, _, zhG B Cl F_init b_init CMOST_LETTERS CMOST_FIGURES F3 G_is_end, b3, k3, mg_of X G a3⟩
 have F4 := zat (st := zbj) l4 c4 k4
 have b4 := bn2 (p0 := "one") (p1 := "other") F4
 have G_span_reaches : FnH l.prog w K mg base 1 "span_reaches" ["one", "other"] (zf4) := ⟨_, _, zdX B Cl F_init b_init CMOST_LETTERS CMOST_FIGURES F4 , b4, k4, mg_of X G a4⟩
 have F5 := zat (st := zaP) l5 c5 k5
 have b5 := bn2 (p0 := "one") (p1 := "other") F5
 have G_span_shared : FnH l.prog w K mg base 1 "span_shared" ["one", "other"] (zeF) := ⟨_, _, zed B Cl F_init b_init CMOST_LETTERS CMOST_FIGURES F5 , b5, k5, mg_of X G a5⟩
 have F6 := zat (st := zb8) l6 c6 k6
 have b6 := bn1 (p0 := "span") F6
 have G_number_of : FnH l.prog w K mg base 1 "number_of" ["span"] (zf5) := ⟨_, _, zfx B Cl F_init b_init CMOST_LETTERS CMOST_FIGURES F6 , b6, k6, mg_of X G a6⟩
 have F7 := zat (st := zbk) l7 c7 k7
 have b7 := bn2 (p0 := "one") (p1 := "other") F7
 have G_number_apart : FnH l.prog w K mg base 2 "number_apart" ["one", "other"] (zgb) := ⟨_, _, zdY B Cl F_init b_init CMOST_LETTERS CMOST_FIGURES F7 G_span_shared G_number_of, b7, k7, mg_of X G a7⟩
 have F8 := zat (st := zbY) l8 c8 k8
 have b8 := bn1 (p0 := "thing") F8
 have G_is_field : FnH l.prog w K mg base 1 "is_field" ["thing"] (zf8) := ⟨_, _, zgE B Cl F_init b_init CMOST_LETTERS CMOST_FIGURES F8 , b8, k8, mg_of X G a8⟩
 have F9 := zat (st := zbl) l9 c9 k9
 have b9 := bn1 (p0 := "thing") F9
 have G_is_wish_part : FnH l.prog w K mg base 4 "is_wish_part" ["thing"] (zc4) := ⟨_, _, zdZ B Cl F_init b_init CMOST_LETTERS CMOST_FIGURES F9 G_is_field G_is_span, b9, k9, mg_of X G a9⟩
 have F10 := zat (st := za9) l10 c10 k10
 have b10 := bn1 (p0 := "thing") F10
 have G_is_piece_part : FnH l.prog w K mg base 2 "is_piece_part" ["thing"] (zcJ) := ⟨_, _, zdu B Cl F_init b_init CMOST_LETTERS CMOST_FIGURES F10 G_is_field G_is_whole, b10, k10, mg_of X G a10⟩
 have F11 := zat (st := zaN) l11 c11 k11
 have b11 := bn1 (p0 := "parts") F11
 have G_fields_ascend : FnH l.prog w K mg base 1 "fields_ascend" ["parts"] (zeL) := ⟨_, _, zdv B Cl F_init b_init CMOST_LETTERS CMOST_FIGURES F11 , b11, k11, mg_of X G a11⟩
 have F12 := zat (st := zch) l12 c12 k12
 have b12 := bn1 (p0 := "thing") F12
 have G_is_wish : FnH l.prog w K mg base 5 "is_wish" ["thing"] (zeJ) := ⟨_, _, zhF B Cl F_init b_init CMOST_LETTERS CMOST_FIGURES F12 G_fields_ascend G_is_wish_part, b12, k12, mg_of X G a12⟩
 have F13 := zat (st := zbX) l13 c13 k13
 have b13 := bn1 (p0 := "thing") F13
 have G_is_piece : FnH l.prog w K mg base 3 "is_piece" ["thing"] (zdM) := ⟨_, _, zgD B Cl F_init b_init CMOST_LETTERS CMOST_FIGURES F13 G_fields_ascend G_is_piece_part, b13, k13, mg_of X G a13⟩
 have F14 := zat (st := zbL) l14 c14 k14
 have b14 := bn1 (p0 := "thing") F14
 have G_check_wish : FnH l.prog w K mg base 6 "check_wish" ["thing"] (zdN) := ⟨_, _, ze2 B Cl F_init b_init CMOST_LETTERS CMOST_FIGURES F14 G_is_wish, b14, k14, mg_of X G a14⟩
 have F15 := zat (st := zby) l15 c15 k15
 have b15 := bn1 (p0 := "thing") F15
 have G_check_piece : FnH l.prog w K mg base 4 "check_piece" ["thing"] (zc6) := ⟨_, _, zeg B Cl F_init b_init CMOST_LETTERS CMOST_FIGURES F15 G_is_piece, b15, k15, mg_of X G a15⟩
 have F16 := zat (st := zaL) l16 c16 k16
 have b16 := bn1 (p0 := "wish") F16
 have G_spans_by_field : FnH l.prog w K mg base 1 "spans_by_field" ["wish"] (zdI) := ⟨_, _, zc9 B Cl F_init b_init CMOST_LETTERS CMOST_FIGURES F16 , b16, k16, mg_of X G a16⟩
 have F17 := zat (st := za5) l17 c17 k17
 have b17 := bn2 (p0 := "one") (p1 := "other_spans") F17
 have G_reaches_spans : FnH l.prog w K mg base 2 "reaches_spans" ["one", "other_spans"] (zdK) := ⟨_, _, zdr B Cl F_init b_init CMOST_LETTERS CMOST_FIGURES F17 G_span_reaches, b17, k17, mg_of X G a17⟩
 have F18 := zat (st := zbh) l18 c18 k18
 have b18 := bn2 (p0 := "one") (p1 := "other") F18
 have G_wish_reaches : FnH l.prog w K mg base 3 "wish_reaches" ["one", "other"] (zcI) := ⟨_, _, zdV B Cl F_init b_init CMOST_LETTERS CMOST_FIGURES F18 G_reaches_spans G_spans_by_field, b18, k18, mg_of X G a18⟩
 have F19 := zat (st := za7) l19 c19 k19
 have b19 := bn2 (p0 := "one") (p1 := "other") F19
 have G_parting_piece : FnH l.prog w K mg base 7 "parting_piece" ["one", "other"] (zdL) := ⟨_, _, zdt B Cl F_init b_init CMOST_LETTERS CMOST_FIGURES F19 G_check_wish G_wish_reaches G_spans_by_field G_number_apart G_number_of, b19, k19, mg_of X G a19⟩
 have F20 := zat (st := zba) l20 c20 k20
 have b20 := bn1 (p0 := "holds") F20
 have G_check_written : FnHX l.prog w K mg base 3 "check_written" ["holds"] (spCW cNoText) := ⟨_, _, zdw B Cl F_init b_init CMOST_LETTERS CMOST_FIGURES F20 , b20, k20, mg_of X G a20⟩
 have F21 := zat (st := zbM) l21 c21 k21
 have b21 := bn1 (p0 := "thing") F21
 have G_check_text : FnH l.prog w K mg base 4 "check_text" ["thing"] (spCT) := ⟨_, _, ze3 B Cl F_init b_init CMOST_LETTERS CMOST_FIGURES F21 G_check_written, b21, k21, mg_of X G a21⟩
 have F22 := zat (st := zcs) l22 c22 k22
 have b22 := bn1 (p0 := "number") F22
 have G_show_end : FnH l.prog w K mg base 1 "show_end" ["number"] (zf1) := ⟨_, _, zgw B Cl F_init b_init CMOST_LETTERS CMOST_FIGURES F22 , b22, k22, mg_of X G a22⟩
 have F23 := zat (st := zcr) l23 c23 k23
 have b23 := bn1 (p0 := "text") F23
 have G_words_in : FnH l.prog w K mg base 1 "words_in" ["text"] (zfX) := ⟨_, _, zgv B Cl F_init b_init CMOST_LETTERS CMOST_FIGURES F23 , b23, k23, mg_of X G a23⟩
 have F24 := zat (st := zbZ) l24 c24 k24
 have b24 := bn2 (p0 := "text") (p1 := "most") F24
 have G_count_in : FnHX l.prog w K mg base 4 "count_in" ["text", "most"] (zga cNoText) := ⟨_, _, zgF B Cl F_init b_init CMOST_LETTERS CMOST_FIGURES F24 G_check_written, b24, k24, mg_of X G a24⟩
 have F25 := zat (st := zb9) l25 c25 k25
 have b25 := bn1 (p0 := "text") F25
 have G_number_in : FnHX l.prog w K mg base 5 "number_in" ["text"] (zf6 cNoText) := ⟨_, _, zfy B Cl F_init b_init CMOST_LETTERS CMOST_FIGURES F25 G_check_written G_count_in, b25, k25, mg_of X G a25⟩
 have F26 := zat (st := zdA) l26 c26 k26
 have b26 := bn1 (p0 := "text") F26
 have G_end_in : FnH l.prog w K mg base 6 "end_in" ["text"] (zf9) := ⟨_, _, ziA B Cl F_init b_init CMOST_LETTERS CMOST_FIGURES F26 G_number_in, b26, k26, mg_of X G a26⟩
 have F27 := zat (st := zbi) l27 c27 k27
 have b27 := bn1 (p0 := "text") F27
 have G_wish_part_in : FnH l.prog w K mg base 7 "wish_part_in" ["text"] (zh6) := ⟨_, _, zdW B Cl F_init b_init CMOST_LETTERS CMOST_FIGURES F27 G_end_in, b27, k27, mg_of X G a27⟩
 have F28 := zat (st := za6) l28 c28 k28
 have b28 := bn1 (p0 := "text") F28
 have G_piece_part_in : FnHX l.prog w K mg base 6 "piece_part_in" ["text"] (zh8 cNoText) := ⟨_, _, zds B Cl F_init b_init CMOST_LETTERS CMOST_FIGURES F28 G_number_in, b28, k28, mg_of X G a28⟩
 have F29 := zat (st := zbE) l29 c29 k29
 have b29 := bn1 (p0 := "wish") F29
 have G_show_wish : FnH l.prog w K mg base 7 "show_wish" ["wish"] (zfZ) := ⟨_, _, zfv B Cl F_init b_init CMOST_LETTERS CMOST_FIGURES F29 G_check_wish G_show_end, b29, k29, mg_of X G a29⟩
 have F30 := zat (st := zbm) l30 c30 k30
 have b30 := bn1 (p0 := "piece") F30
 have G_show_piece : FnH l.prog w K mg base 5 "show_piece" ["piece"] (zf0) := ⟨_, _, zeY B Cl F_init b_init CMOST_LETTERS CMOST_FIGURES F30 G_check_piece, b30, k30, mg_of X G a30⟩
 have F31 := zat (st := zbF) l31 c31 k31
 have b31 := bn1 (p0 := "text") F31
 have G_read_wish : FnH l.prog w K mg base 8 "read_wish" ["text"] (zf2) := ⟨_, _, zfw B Cl F_init b_init CMOST_LETTERS CMOST_FIGURES F31 G_check_text G_check_written G_is_wish G_wish_part_in G_words_in, b31, k31, mg_of X G a31⟩
 have F32 := zat (st := zbn) l32 c32 k32
 have b32 := bn1 (p0 := "text") F32
 have G_read_piece : FnHX l.prog w K mg base 7 "read_piece" ["text"] (zf3 cNoText) := ⟨_, _, zeZ B Cl F_init b_init CMOST_LETTERS CMOST_FIGURES F32 G_check_text G_check_written G_is_piece G_piece_part_in G_words_in, b32, k32, mg_of X G a32⟩
 have F33 := zat (st := zbW) l33 c33 k33
 have b33 := bn1 (p0 := "script") F33
 have G_law_bag : FnH l.prog w K mg base 1 "_law_bag" ["script"] (zkx K) := ⟨_, _, zhE B Cl F_init b_init CMOST_LETTERS CMOST_FIGURES F33 , b33, k33, mg_of X G a33⟩
 have F34 := zat (st := zcw) l34 c34 k34
 have b34 := bn2 (p0 := "bag") (p1 := "many") F34
 have G_law_draw : FnH l.prog w K mg base 1 "_law_draw" ["bag", "many"] (zib) := ⟨_, _, zgB B Cl F_init b_init CMOST_LETTERS CMOST_FIGURES F34 , b34, k34, mg_of X G a34⟩
 have F35 := zat (st := zbK) l35 c35 k35
 have b35 := bn1 (p0 := "bag") F35
 have G_law_number : FnH l.prog w K mg base 2 "_law_number" ["bag"] (zeI) := ⟨_, _, ze0 B Cl F_init b_init CMOST_LETTERS CMOST_FIGURES F35 G_law_draw, b35, k35, mg_of X G a35⟩
 have F36 := zat (st := zcv) l36 c36 k36
 have b36 := bn1 (p0 := "number") F36
 have G_law_held : FnH l.prog w K mg base 1 "_law_held" ["number"] (zia) := ⟨_, _, zgA B Cl F_init b_init CMOST_LETTERS CMOST_FIGURES F36 , b36, k36, mg_of X G a36⟩
 have F37 := zat (st := zct) l37 c37 k37
 have b37 := bn1 (p0 := "bag") F37
 have G_law_span : FnH l.prog w K mg base 3 "_law_span" ["bag"] (zh7) := ⟨_, _, zgx B Cl F_init b_init CMOST_LETTERS CMOST_FIGURES F37 G_law_draw G_law_number G_law_held, b37, k37, mg_of X G a37⟩
 have F38 := zat (st := zbg) l38 c38 k38
 have b38 := bn1 (p0 := "bag") F38
 have G_law_field : FnH l.prog w K mg base 2 "_law_field" ["bag"] (zc5) := ⟨_, _, zfA B Cl F_init b_init CMOST_LETTERS CMOST_FIGURES F38 G_law_draw, b38, k38, mg_of X G a38⟩
 have F39 := zat (st := zbo) l39 c39 k39
 have b39 := bn2 (p0 := "bag") (p1 := "most") F39
 have G_law_fields : FnH l.prog w K mg base 3 "_law_fields" ["bag", "most"] (zcK) := ⟨_, _, ze1 B Cl F_init b_init CMOST_LETTERS CMOST_FIGURES F39 G_law_field G_law_draw, b39, k39, mg_of X G a39⟩
 have F40 := zat (st := zbV) l40 c40 k40
 have b40 := bn2 (p0 := "found") (p1 := "due") F40
 have G_law_same : FnH l.prog w K mg base 11 "_law_same" ["found", "due"] (zg6 9 zeG) := ⟨_, _, zgy B Cl F_init b_init CMOST_LETTERS CMOST_FIGURES F40  (PySem.W.mg_of X G a40), b40, k40, mg_of X G a40⟩
 have F41 := zat (st := zcu) l41 c41 k41
 have b41 := bn3 (p0 := "bag") (p1 := "size") (p2 := "most") F41
 have G_law_made : FnH l.prog w K mg base 4 "_law_made" ["bag", "size", "most"] (zf7) := ⟨_, _, zgz B Cl F_init b_init CMOST_LETTERS CMOST_FIGURES F41 G_law_fields G_law_span G_law_number, b41, k41, mg_of X G a41⟩
 have F42 := zat (st := za8) l42 c42 k42
 have b42 := bn1 (p0 := "thing") F42
 have G_law_written : FnH l.prog w K mg base 1 "_law_written" ["thing"] (zdH) := ⟨_, _, zee B Cl F_init b_init CMOST_LETTERS CMOST_FIGURES F42 , b42, k42, mg_of X G a42⟩
 have F43 := zat (st := zbx) l43 c43 k43
 have b43 := bn1 (p0 := "text") F43
 have G_law_refused : FnH l.prog w K mg base 8 "_law_refused" ["text"] (zdJ) := ⟨_, _, zef B Cl F_init b_init CMOST_LETTERS CMOST_FIGURES F43 G_read_piece, b43, k43, mg_of X G a43⟩
 have F44 := zat (st := zbG) l44 c44 k44
 have b44 := bn2 (p0 := "thing") (p1 := "size") F44
 have G_law_right : FnH l.prog w K mg base 12 "_law_right" ["thing", "size"] (zeH) := ⟨_, _, zfz B Cl F_init b_init CMOST_LETTERS CMOST_FIGURES F44 G_law_same G_show_wish G_show_piece G_law_refused G_law_written G_read_wish G_read_piece, b44, k44, mg_of X G a44⟩
 have F45 := zat (st := zgn) l45 c45 k45
 exact zlB B Cl F_init b_init CMOST_LETTERS CMOST_FIGURES F45 G_law_bag G_law_field G_parting_piece G_law_made G_law_draw G_law_right
theorem walk {l : PySem.W.OpenLaw} {q : Program} {loose : List Str} {XP : (Str → Option Value) → Heap → Prop} {YP : World → Heap → Prop} {d : DefRec} {K : Params → PySem.W.Frag} (hn : l.most = some 63) (hdf : d.params.defaults = [])
 (hY : ∀ (w : World) (h : Heap), YP w h → (K w.params).In h)
 (F : ∀ (w : World) (mg : Str → Option Value) (fa : Addr) (h : Heap), (K w.params).In h → h.Ns mainGlobals mg → mg d.name = some (.ref fa) →
  ∃ fd : FuncData, (∀ (s : Shared) (u : Value), BindsTo s fd ⟨[u], []⟩ [("script", u)]) ∧ ∀ base : Heap, (K w.params).In base → base.Ns mainGlobals mg → FnOk l.prog w (K w.params) mg base CX0 13 fa fd ["script"] (zju (K w.params))) :
 PySem.W.WalkO q loose XP YP l.row.toRowW d [] (fun f vs => PySem.call f vs) :=
 L2.walk_of (n := 63) (k := 13) (x := "script") (CX := fun _ => CX0) (sp := fun w => zju (K w.params)) hn (by decide) hdf ⟨rfl, by decide, by decide, rfl⟩ hY F (fun _ _ a ns hl _ hS => ⟨a, ns, rfl, hS, hl, fun _ => rfl⟩) fun _ _ _ _ _ z => z
end K78
namespace PySem.W.Fast
def tw8763587627214075968 := 0
def tw1935186923782642816 := 0
def tw13753797270190305440 := 0
def tw16924273533708981408 := 0
def tw15032465760055258464 := 0
def tw10538881220971391328 := 0
def tw4471085883685653920 := 0
def tw8419524605684804256 := 0
def tw2104686383819125761 := 0
def tw7087203131099289889 := 0
def tw11567036802635836897 := 0
def tw5856035066204664417 := 0
def tw10534145980070849153 := 0
def tw4657168931681209985 := 0
def tw1929051547304685281 := 0
def tw17546039326377133857 := 0
def tw11873356766581740417 := 0
def tw13702351534121567169 := 0
def tw5310348994023150626 := 0
def tw11704933189110493282 := 0
def tw8444881922675784834 := 0
def tw6894067922918534306 := 0
def tw5198442330455123138 := 0
def tw4315648438243724514 := 0
def tw4765921066201410914 := 0
def tw16439882078218550722 := 0
def tw15327510260773797346 := 0
def tw2093427921024977410 := 0
def tw6940293542675895106 := 0
def tw8164684459842324386 := 0
def tw18297366321851069539 := 0
def tw9449580761486917219 := 0
def tw10674809488417900323 := 0
def tw10174079334867695587 := 0
def tw12259473527468907748 := 0
def tw1947035445489405156 := 0
def tw1716701172896648548 := 0
def tw605084406223320452 := 0
def tw12751593588395160996 := 0
def tw11760098951666331076 := 0
def tw2870036657751187908 := 0
def tw475464056724433700 := 0
def tw6162682805007801252 := 0
def tw822169652040348644 := 0
def tw2955567205840419909 := 0
def tw15802569365563682149 := 0
def tw4693187124417474277 := 0
def tw6641179448795474661 := 0
def tw6028588283551293157 := 0
def tw4963516405416455045 := 0
def tw7273591452280500197 := 0
def tw7343123327860593670 := 0
def tw1691182041438622758 := 0
def tw7883754203911276614 := 0
def tw17732147274176388198 := 0
def tw14892360045678113958 := 0
def tw17021633428186538566 := 0
def tw686503440626827942 := 0
def tw13167930749378683622 := 0
def tw16525849855717406566 := 0
def tw8226790833450537894 := 0
def tw3105315507037691814 := 0
def tw4733295943417627590 := 0
def tw9603070381586515975 := 0
def tw14117187161287755815 := 0
def tw1001411120847096039 := 0
def tw10697681491876681223 := 0
def tw6115349642008211047 := 0
def tw10145905607542449927 := 0
def tw64975148082452327 := 0
def tw16750270748133955527 := 0
def tw7806489661323154440 := 0
def tw1493449153595554824 := 0
def tw16724588253851198696 := 0
def tw13478291142514873896 := 0
def tw436422017215302216 := 0
def tw3427584326347703048 := 0
def tw13221049567696814888 := 0
def tw12525908469761171304 := 0
def tw18316298793081524136 := 0
def tw5576730855270496200 := 0
def tw5655321199756526633 := 0
def tw13519662965998149865 := 0
def tw9055625074130505961 := 0
def tw18143194519746505993 := 0
def tw5677307691043217769 := 0
def tw14439553754479632937 := 0
def tw2507263560391368233 := 0
def tw3797183610111558281 := 0
def tw13614479593718619881 := 0
def tw13243985377759043433 := 0
def tw5050349275602168842 := 0
def tw5460362416239153226 := 0
def tw4393084617300662346 := 0
def tw4894095038320102826 := 0
def tw4894358528089924266 := 0
def tw16935505788471759594 := 0
def tw4364559073667186506 := 0
def tw14846269989596594251 := 0
def tw17008504176795696203 := 0
def tw7413825098440359179 := 0
def tw3642004644450990443 := 0
def tw2221621548763427243 := 0
def tw17280041862878961227 := 0
def tw4553795060468051563 := 0
def tw15128806764925733515 := 0
def tw5256848310950469323 := 0
def tw9415629407995433675 := 0
def tw15033427885378642635 := 0
def tw11843378693282046795 := 0
def tw10868482403172542379 := 0
def tw6707214387646530604 := 0
def tw735560606694285420 := 0
def tw11161194628215988364 := 0
def tw3031369728702298284 := 0
def tw4001635062240692492 := 0
def tw8645144014335374668 := 0
def tw12761605167312002444 := 0
def tw3363335215994556972 := 0
def tw12058016392150217356 := 0
def tw8245303126250419884 := 0
def tw15094582517747789516 := 0
def tw2078018449768936140 := 0
def tw17461401398282798860 := 0
def tw9356909363900399372 := 0
def tw6450627862187643724 := 0
def tw16418250716533934028 := 0
def tw12037571230405838285 := 0
def tw1714898113835885 := 0
def tw10337382167450470253 := 0
def tw14401018734263116814 := 0
def tw2354158660260417614 := 0
def tw14877846416744489070 := 0
def tw3690018274119740558 := 0
def tw1864664640098458830 := 0
def tw3403135316862173486 := 0
def tw1733721577915476366 := 0
def tw683411766852758990 := 0
def tw5299508721454688814 := 0
def tw6770409776263061134 := 0
def tw16261239091451697998 := 0
def tw11492201137303063438 := 0
def tw2482637355128718318 := 0
def tw5376253655859584143 := 0
def tw11564770861489483919 := 0
def tw2546418753384473775 := 0
def tw1796482815746178383 := 0
def tw3758330043109386735 := 0
def tw16064720086083247631 := 0
def tw4031357249949082223 := 0
def tw3513948501967806191 := 0
def tw4143500350935066447 := 0
def tw9452799228037095279 := 0
def tw2209115445183806415 := 0
def tw12571186137143078032 := 0
def tw10866957788482250032 := 0
def tw3327745964795779440 := 0
def tw5055522046091707952 := 0
def tw4316695969288783408 := 0
def tw7856772597253523088 := 0
def tw5766018614808084400 := 0
def tw2018891873788436497 := 0
def tw16926502543376680017 := 0
def tw8297338736284317841 := 0
def tw1590282260301588689 := 0
def tw14883606540994009297 := 0
def tw4464809794014032113 := 0
def tw10084523080061623569 := 0
def tw14337592494890456401 := 0
def tw12575030397625450897 := 0
def tw7666136358821209553 := 0
def tw14069838246123059697 := 0
def tw7486906593893254673 := 0
def tw15940752263395396177 := 0
def tw12143784154374232689 := 0
def tw3822340734712619729 := 0
def tw15483904331546936177 := 0
def tw9206036579089834002 := 0
def tw3898590828740739538 := 0
def tw1756456255258404338 := 0
def tw4682500163502197234 := 0
def tw7686831513651977810 := 0
def tw8264408904972173938 := 0
def tw7154674335906706258 := 0
def tw2831374727968587698 := 0
def tw13965825093397890034 := 0
def tw11185969324678374419 := 0
def tw14255085317998154771 := 0
def tw1523586921475666515 := 0
def tw2458121296112320147 := 0
def tw9702237347691006931 := 0
def tw13504914229249946579 := 0
def tw10711499796931180756 := 0
def tw10799019943596581108 := 0
def tw3335052677266179476 := 0
def tw2401059986487250836 := 0
def tw8138601687596726389 := 0
def tw2457195461746941237 := 0
def tw12049640772250359253 := 0
def tw17409196997828170229 := 0
def tw1223202374445053557 := 0
def tw2976457209494627029 := 0
def tw500698280775996117 := 0
def tw2021067532274198293 := 0
def tw7935473148544855893 := 0
def tw2085636638114187157 := 0
def tw13688129021010212789 := 0
def tw13126267297286912949 := 0
def tw15375380131072942069 := 0
def tw4865681954407351285 := 0
def tw13382101222063216758 := 0
def tw2077204159318587606 := 0
def tw15794833477569267030 := 0
def tw2369051605998500246 := 0
def tw2283026172499079638 := 0
def tw1046540072028176854 := 0
def tw14947117775609416246 := 0
def tw12471457046621575798 := 0
def tw14236816798354291350 := 0
def tw3009816096733910742 := 0
def tw13322131041216870134 := 0
def tw16388977113394742006 := 0
def tw17857486687338177430 := 0
def tw2715667614567890902 := 0
def tw13622746126131085302 := 0
def tw14481102867171873879 := 0
def tw17154499125605889111 := 0
def tw8654604822146129047 := 0
def tw4493172581976145111 := 0
def tw2501445460650058135 := 0
def tw8416081269181543831 := 0
def tw1213169409833175479 := 0
def tw2521349695817694647 := 0
def tw1259185721564463607 := 0
def tw11872285584395351575 := 0
def tw17945474644261514807 := 0
def tw7826892465353005623 := 0
def tw3985548830741206647 := 0
def tw6440718516037842615 := 0
def tw15586933191465127607 := 0
def tw16377423112803051351 := 0
def tw12868229649718110103 := 0
def tw3631176673519875096 := 0
def tw4962423810728743096 := 0
def tw2788310181186205112 := 0
def tw6226105055389021752 := 0
def tw17696484881154788120 := 0
def tw5061864930088624952 := 0
def tw10493509641563521081 := 0
def tw7373462146902360153 := 0
def tw4025790272632305785 := 0
def tw610632549197054329 := 0
def tw7800889490129040793 := 0
def tw11629743954065361657 := 0
def tw13804704321865945114 := 0
def tw14432125286279352378 := 0
def tw3199683089964000314 := 0
def tw5959874733629230234 := 0
def tw5346379182239346202 := 0
def tw5796029172848315930 := 0
def tw13855824411882605146 := 0
def tw14493747584480663162 := 0
def tw5557285554226689754 := 0
def tw778227688086154170 := 0
def tw889015910864043355 := 0
def tw12385847593109577147 := 0
def tw18109676611689458363 := 0
def tw3499819143771124411 := 0
def tw2068790953756296955 := 0
def tw18285118544283192091 := 0
def tw13394898538285792059 := 0
def tw17085669242376430684 := 0
def tw2640396701685003452 := 0
def tw2598164642002266684 := 0
def tw570602020965632700 := 0
def tw6769527764391546716 := 0
def tw9305168725055203196 := 0
def tw1181216807649477693 := 0
def tw10851907088614297693 := 0
def tw5132306658606436733 := 0
def tw14407567006797837725 := 0
def tw15570843723027554813 := 0
def tw5789100248901582621 := 0
def tw14793946012426053629 := 0
def tw1411495906385524766 := 0
def tw8066354458839996542 := 0
def tw389919124887497886 := 0
def tw152563453399649470 := 0
def tw17404544997539086526 := 0
def tw9204375806723917214 := 0
def tw1294356972177362334 := 0
def tw17828468146435268062 := 0
def tw14891232492375484958 := 0
def tw15335730953161004798 := 0
def tw9683756357562438558 := 0
def tw10324244956901644190 := 0
def tw13116713513067766782 := 0
def tw1780738891766090815 := 0
def tw10887754103475358815 := 0
def tw1995868407508753567 := 0
def tw6708143719928975615 := 0
def tw11643640898321152255 := 0
def tw2000036415089038623 := 0
def tw1881296746524998015 := 0
def tw4117702348551675327 := 0
def tw5215309327559119455 := 0
def tw16451758223098006303 := 0
end PySem.W.Fast
open PySem PySem.W PyProof.Rows
set_option maxRecDepth 100000 in
set_option maxHeartbeats 0 in
theorem PySem.Challenge.cw_newsways_k78_wishes_and_pieces_written_holds : PySem.Challenge.rw_newsways_k78_wishes_and_pieces_written.Holds := by
 w_on; o_law; k_head; (case hw => w_witness2)
 k_fill
 refine K78.walk (l := PySem.Challenge.rw_newsways_k78_wishes_and_pieces_written) rfl rfl (fun w h Y => PySem.W.kIn_of Y) ?F
 case F =>
  intro w mg fa h KX G hmg
  refine' K78.all_mk KX G hmg ?a1 ?l1 ?c1 ?k1 ?a2 ?l2 ?c2 ?k2 ?a3 ?l3 ?c3 ?k3 ?a4 ?l4 ?c4 ?k4 ?a5 ?l5 ?c5 ?k5 ?a6 ?l6 ?c6 ?k6 ?a7 ?l7 ?c7 ?k7 ?a8 ?l8 ?c8 ?k8 ?a9 ?l9 ?c9 ?k9 ?a10 ?l10 ?c10 ?k10 ?a11 ?l11 ?c11 ?k11 ?a12 ?l12 ?c12 ?k12 ?a13 ?l13 ?c13 ?k13 ?a14 ?l14 ?c14 ?k14 ?a15 ?l15 ?c15 ?k15 ?a16 ?l16 ?c16 ?k16 ?a17 ?l17 ?c17 ?k17 ?a18 ?l18 ?c18 ?k18 ?a19 ?l19 ?c19 ?k19 ?a20 ?l20 ?c20 ?k20 ?a21 ?l21 ?c21 ?k21 ?a22 ?l22 ?c22 ?k22 ?a23 ?l23 ?c23 ?k23 ?a24 ?l24 ?c24 ?k24 ?a25 ?l25 ?c25 ?k25 ?a26 ?l26 ?c26 ?k26 ?a27 ?l27 ?c27 ?k27 ?a28 ?l28 ?c28 ?k28 ?a29 ?l29 ?c29 ?k29 ?a30 ?l30 ?c30 ?k30 ?a31 ?l31 ?c31 ?k31 ?a32 ?l32 ?c32 ?k32 ?a33 ?l33 ?c33 ?k33 ?a34 ?l34 ?c34 ?k34 ?a35 ?l35 ?c35 ?k35 ?a36 ?l36 ?c36 ?k36 ?a37 ?l37 ?c37 ?k37 ?a38 ?l38 ?c38 ?k38 ?a39 ?l39 ?c39 ?k39 ?a40 ?l40 ?c40 ?k40 ?a41 ?l41 ?c41 ?k41 ?a42 ?l42 ?c42 ?k42 ?a43 ?l43 ?c43 ?k43 ?a44 ?l44 ?c44 ?k44 ?a45 ?l45 ?c45 ?k45 ?e_MOST_LETTERS ?e_MOST_FIGURES ?y_NoText ?y_T ?y_bT ?y_TT ?y_iT ?y_kT ?y_li ?y_ci ?y_ki ?y_oi ?y_ve ?z_len ?z_range ?z_isinstance ?z_int ?z_bool ?z_tuple ?z_list ?z_max ?z_min ?z_all ?z_zip ?z_str ?z_dict ?z_sorted ?z_set ?z_any ?z_sum ?z_enumerate ?z_repr ?z_ord ?z_chr ?z_abs ?z_reversed
  (case a1 => k_is); (case l1 => k_is); (case c1 => k_is); (case k1 => k_is)
  (case a2 => k_is); (case l2 => k_is); (case c2 => k_is); (case k2 => k_is)
  (case a3 => k_is); (case l3 => k_is); (case c3 => k_is); (case k3 => k_is)
  (case a4 => k_is); (case l4 => k_is); (case c4 => k_is); (case k4 => k_is)
  (case a5 => k_is); (case l5 => k_is); (case c5 => k_is); (case k5 => k_is)
  (case a6 => k_is); (case l6 => k_is); (case c6 => k_is); (case k6 => k_is)
  (case a7 => k_is); (case l7 => k_is); (case c7 => k_is); (case k7 => k_is)
  (case a8 => k_is); (case l8 => k_is); (case c8 => k_is); (case k8 => k_is)
  (case a9 => k_is); (case l9 => k_is); (case c9 => k_is); (case k9 => k_is)
  (case a10 => k_is); (case l10 => k_is); (case c10 => k_is); (case k10 => k_is)
  (case a11 => k_is); (case l11 => k_is); (case c11 => k_is); (case k11 => k_is)
  (case a12 => k_is); (case l12 => k_is); (case c12 => k_is); (case k12 => k_is)
  (case a13 => k_is); (case l13 => k_is); (case c13 => k_is); (case k13 => k_is)
  (case a14 => k_is); (case l14 => k_is); (case c14 => k_is); (case k14 => k_is)
  (case a15 => k_is); (case l15 => k_is); (case c15 => k_is); (case k15 => k_is)
  (case a16 => k_is); (case l16 => k_is); (case c16 => k_is); (case k16 => k_is)
  (case a17 => k_is); (case l17 => k_is); (case c17 => k_is); (case k17 => k_is)
  (case a18 => k_is); (case l18 => k_is); (case c18 => k_is); (case k18 => k_is)
  (case a19 => k_is); (case l19 => k_is); (case c19 => k_is); (case k19 => k_is)
  (case a20 => k_is); (case l20 => k_is); (case c20 => k_is); (case k20 => k_is)
  (case a21 => k_is); (case l21 => k_is); (case c21 => k_is); (case k21 => k_is)
  (case a22 => k_is); (case l22 => k_is); (case c22 => k_is); (case k22 => k_is)
  (case a23 => k_is); (case l23 => k_is); (case c23 => k_is); (case k23 => k_is)
  (case a24 => k_is); (case l24 => k_is); (case c24 => k_is); (case k24 => k_is)
  (case a25 => k_is); (case l25 => k_is); (case c25 => k_is); (case k25 => k_is)
  (case a26 => k_is); (case l26 => k_is); (case c26 => k_is); (case k26 => k_is)
  (case a27 => k_is); (case l27 => k_is); (case c27 => k_is); (case k27 => k_is)
  (case a28 => k_is); (case l28 => k_is); (case c28 => k_is); (case k28 => k_is)
  (case a29 => k_is); (case l29 => k_is); (case c29 => k_is); (case k29 => k_is)
  (case a30 => k_is); (case l30 => k_is); (case c30 => k_is); (case k30 => k_is)
  (case a31 => k_is); (case l31 => k_is); (case c31 => k_is); (case k31 => k_is)
  (case a32 => k_is); (case l32 => k_is); (case c32 => k_is); (case k32 => k_is)
  (case a33 => k_is); (case l33 => k_is); (case c33 => k_is); (case k33 => k_is)
  (case a34 => k_is); (case l34 => k_is); (case c34 => k_is); (case k34 => k_is)
  (case a35 => k_is); (case l35 => k_is); (case c35 => k_is); (case k35 => k_is)
  (case a36 => k_is); (case l36 => k_is); (case c36 => k_is); (case k36 => k_is)
  (case a37 => k_is); (case l37 => k_is); (case c37 => k_is); (case k37 => k_is)
  (case a38 => k_is); (case l38 => k_is); (case c38 => k_is); (case k38 => k_is)
  (case a39 => k_is); (case l39 => k_is); (case c39 => k_is); (case k39 => k_is)
  (case a40 => k_is); (case l40 => k_is); (case c40 => k_is); (case k40 => k_is)
  (case a41 => k_is); (case l41 => k_is); (case c41 => k_is); (case k41 => k_is)
  (case a42 => k_is); (case l42 => k_is); (case c42 => k_is); (case k42 => k_is)
  (case a43 => k_is); (case l43 => k_is); (case c43 => k_is); (case k43 => k_is)
  (case a44 => k_is); (case l44 => k_is); (case c44 => k_is); (case k44 => k_is)
  (case a45 => k_is); (case l45 => k_is); (case c45 => k_is); (case k45 => k_is)
  (case e_MOST_LETTERS => k_is); (case e_MOST_FIGURES => k_is)
  (case y_NoText => k_is)
  (case y_T => k_is)
  (case y_bT => exact ⟨by first | k_is | rfl | decide | (with_unfolding_all rfl), by first | k_is | rfl | decide | (with_unfolding_all rfl), by first | k_is | rfl | decide | (with_unfolding_all rfl), by first | k_is | rfl | decide | (with_unfolding_all rfl)⟩)
  (case y_TT => first | k_is | rfl | decide | (with_unfolding_all rfl))
  (case y_iT => k_is)
  (case y_kT => k_is)
  (case y_li => k_is)
  (case y_ci => k_is)
  (case y_ki => k_is)
  (case y_oi => rfl)
  (case y_ve => k_is)
  (case z_len => k_is); (case z_range => k_is); (case z_isinstance => k_is); (case z_int => k_is); (case z_bool => k_is); (case z_tuple => k_is); (case z_list => k_is); (case z_max => k_is); (case z_min => k_is); (case z_all => k_is); (case z_zip => k_is); (case z_str => k_is); (case z_dict => k_is); (case z_sorted => k_is); (case z_set => k_is); (case z_any => k_is); (case z_sum => k_is); (case z_enumerate => k_is); (case z_repr => k_is); (case z_ord => k_is); (case z_chr => k_is); (case z_abs => k_is); (case z_reversed => k_is)
